"""Random lists of calls, held against a second, plainer telling of the document in all of Python."""

import bisect
import datetime
import math
import random
import re
import unittest
from fractions import Fraction

from tests.helper import (
    amend, as_bytes, ask, corrected, counting, course, date_of, day_of, finish, legs_of, load, margin, order, page,
    printed, race, swing, wind, withdraw,
)

NUMBER = re.compile(rb"0|[1-9][0-9]{0,6}")
NAME = re.compile(rb"[A-Za-z0-9-]{1,12}")
DATE = re.compile(rb"(19|20|21)[0-9]{2}-[0-9]{2}-[0-9]{2}")


class WrongLine(Exception):
    pass


def need(right):
    if not right:
        raise WrongLine


def number(word, least, most):
    need(NUMBER.fullmatch(word))
    need(least <= int(word) <= most)
    return int(word)


def date(word):
    need(DATE.fullmatch(word))
    try:
        return datetime.date.fromisoformat(word.decode())
    except ValueError:
        raise WrongLine from None


class Reference:
    def __init__(self):
        self.boats, self.certs, self.races = [], [], []

    def read(self, text, boats, certs):
        pieces = bytes(text).split(b"\n")
        if pieces[-1] == b"":
            pieces.pop()
        boats, certs, own = list(boats), list(certs), None
        for place, piece in enumerate(pieces, start=1):
            try:
                own = self.line(piece, boats, certs, own)
            except WrongLine:
                return [-1000 - place]
        if own and len(own["rows"]) < 2:
            return [-1000 - len(pieces) - 1]
        self.boats, self.certs = boats, certs
        return [len(boats), len(certs)]

    def line(self, piece, boats, certs, own):
        need(re.fullmatch(rb"[ -~]*", piece))
        words = piece.split()
        if not words or words[0].startswith(b"#"):
            return own
        need(words[0] in (b"boat", b"cert", b"wind"))
        need(len(words) == {b"boat": 2, b"cert": 7, b"wind": 5}[words[0]])
        if words[0] == b"wind":
            need(own and len(own["rows"]) < 8)
            row = [number(words[1], 1, 99)] + [number(word, 1, 9999) for word in words[2:]]
            if own["rows"]:
                before = own["rows"][-1]
                need(row[0] > before[0] and all(new <= old for new, old in zip(row[1:], before[1:])))
            own["rows"].append(row)
            return own
        need(not own or len(own["rows"]) >= 2)
        if words[0] == b"boat":
            need(NAME.fullmatch(words[1]) and words[1] not in boats and len(boats) < 12)
            boats.append(words[1])
            return None
        new = {"no": number(words[1], 1, 999999), "boat": words[2], "first": date(words[3]), "last": date(words[4]),
               "factor": number(words[5], 100, 9999), "allowance": number(words[6], 0, 99999), "rows": []}
        need(words[2] in boats and new["first"] <= new["last"] and len(certs) < 24)
        need(new["no"] not in [cert["no"] for cert in certs])
        certs.append(new)
        return new

    def load(self, text):
        if len(text) > 4000:
            return [-8]
        answer = self.read(text, [], [])
        if answer[0] >= 0:
            self.races = []
        return answer

    def amend(self, text):
        return [-8] if len(text) > 4000 else self.read(text, self.boats, self.certs)

    def printed(self):
        text = "".join(f"boat {name.decode()}\n" for name in self.boats)
        for cert in self.certs:
            text += "cert {no} {} {first} {last} {factor} {allowance}\n".format(cert["boat"].decode(), **cert)
            text += "".join("wind {} {} {} {}\n".format(*row) for row in cert["rows"])
        return list(text.encode())

    def withdraw(self, no):
        left = [cert for cert in self.certs if cert["no"] != no]
        if len(left) == len(self.certs):
            return [-5]
        self.certs = left
        return [len(left)]

    def race(self, day, legs):
        try:
            day = date(bytes(day))
        except WrongLine:
            return [-7]
        pairs = list(zip(legs[::2], legs[1::2]))
        if len(legs) % 2 or not 1 <= len(pairs) <= 12:
            return [-9]
        if not all(kind in (0, 1, 2) and 1 <= length <= 10000 for kind, length in pairs):
            return [-9]
        if len(self.races) == 6:
            return [-4]
        self.races.append({"day": day, "legs": pairs, "times": {}})
        return [len(self.races)]

    def refusal(self, checks):
        numbers = {-2: len(self.boats), -3: len(self.races)}
        for code, value in checks:
            if code in numbers and not 1 <= value <= numbers[code] or code == -10 and not value:
                return [code]
        return None

    def finish(self, r, b, e):
        refused = self.refusal([(-3, r), (-2, b), (-10, 0 <= e <= 999999)])
        if refused:
            return refused
        times = self.races[r - 1]["times"]
        before = times.pop(b, 0)
        if e:
            times[b] = e
        return [before]

    def holds(self, b, r):
        day = self.races[r - 1]["day"]
        mine = [cert for cert in self.certs if cert["boat"] == self.boats[b - 1]]
        held = [cert for cert in mine if cert["first"] <= day <= cert["last"]]
        return sorted(held, key=lambda cert: (cert["first"], cert["no"]))[-1:]

    def counting(self, b, r):
        return self.refusal([(-2, b), (-3, r)]) or [cert["no"] for cert in self.holds(b, r)] or [0]

    def spots(self, r, b):
        """Each row's wind, and the course's time there in seconds."""
        legs = self.races[r - 1]["legs"]
        rows = self.holds(b, r)[0]["rows"]
        return [(row[0], sum(Fraction(length * row[1 + kind], 100) for kind, length in legs)) for row in rows]

    def distance(self, r):
        return sum(length for kind, length in self.races[r - 1]["legs"])

    def result(self, m, r, b, seconds=None):
        """What is less is ahead."""
        cert = self.holds(b, r)[0]
        seconds = seconds or self.races[r - 1]["times"][b]
        if m == 0:
            return Fraction(seconds * cert["factor"], 1000)
        if m == 1:
            return seconds - Fraction(cert["allowance"], 10) * Fraction(self.distance(r), 100)
        spots = self.spots(r, b)
        if seconds >= spots[0][1]:
            return (-spots[0][0], seconds / spots[0][1])
        if seconds < spots[-1][1]:
            return (-spots[-1][0], seconds / spots[-1][1])
        winds = []
        for (wind, slow), (more, fast) in zip(spots, spots[1:]):
            if slow >= seconds >= fast:
                winds.append(wind if slow == fast else wind + (more - wind) * (slow - seconds) / (slow - fast))
        return (-min(winds), 1)

    def corrected(self, m, r, b):
        refused = self.refusal([(-10, m in (0, 1)), (-3, r), (-2, b)])
        if refused:
            return refused
        if not self.is_told(b, r):
            return [-6]
        time = self.result(m, r, b)
        return [math.floor(time + Fraction(1, 2))] + self.fraction(time)

    def is_told(self, b, r):
        return b in self.races[r - 1]["times"] and self.holds(b, r)

    def fraction(self, value):
        text = list("{}/{}".format(*Fraction(value).as_integer_ratio()).encode())
        return [len(text)] + text

    def pairs(self, m, r):
        told = {b: self.result(m, r, b) for b in self.races[r - 1]["times"] if self.holds(b, r)}
        return sorted((1 + sum(other < own for other in told.values()), b) for b, own in told.items())

    def order(self, m, r):
        refused = self.refusal([(-10, m in (0, 1, 2)), (-3, r)])
        if refused:
            return refused
        pairs = self.pairs(m, r)
        return [len(pairs)] + [value for pair in pairs for value in pair]

    def wind(self, r, b):
        refused = self.refusal([(-3, r), (-2, b)])
        if refused:
            return refused
        if not self.is_told(b, r):
            return [-6]
        knots, ratio = self.result(2, r, b)
        return self.fraction(-knots) + self.fraction(ratio)

    def course(self, r, b, w):
        refused = self.refusal([(-3, r), (-2, b), (-10, 0 <= w <= 1000)])
        if refused:
            return refused
        if not self.holds(b, r):
            return [-6]
        spots, knots = self.spots(r, b), Fraction(w, 10)
        knots = min(max(knots, spots[0][0]), spots[-1][0])
        for (less, slow), (more, fast) in zip(spots, spots[1:]):
            if less <= knots <= more:
                return self.fraction(100 * (slow * (more - knots) + fast * (knots - less)) / (more - less))

    def margin(self, m, r, a, b):
        refused = self.refusal([(-10, m in (0, 1, 2)), (-3, r), (-2, a), (-2, b)])
        if refused:
            return refused
        if not (self.is_told(a, r) and self.is_told(b, r)):
            return [-6]
        times, other = range(1, 10 ** 6), self.result(m, r, b)
        return [bisect.bisect_left(times, other, key=lambda time: self.result(m, r, a, time))]

    def swing(self, r, a, b):
        refused = self.refusal([(-3, r), (-2, a), (-2, b)])
        if refused:
            return refused
        if not (self.is_told(a, r) and self.is_told(b, r)):
            return [-6]
        seconds, limit = self.races[r - 1]["times"][a], math.ceil(1000 * self.result(0, r, b))
        return [max((factor for factor in range(100, 10000) if seconds * factor < limit), default=0)]

    def day(self, text):
        try:
            return [(date(bytes(text)) - datetime.date(1900, 1, 1)).days]
        except WrongLine:
            return [-7]

    def date(self, n):
        if not 0 <= n <= (datetime.date(2199, 12, 31) - datetime.date(1900, 1, 1)).days:
            return [-10]
        return list((datetime.date(1900, 1, 1) + datetime.timedelta(n)).isoformat().encode())

    def page(self, m, r):
        refused = self.refusal([(-10, m in (0, 1, 2)), (-3, r)])
        if refused:
            return refused
        told = "race {} {}\n".format(self.races[r - 1]["day"].isoformat(), self.distance(r))
        for place, b in self.pairs(m, r):
            own = self.result(m, r, b)
            word = "{}/{}".format(*Fraction(-own[0]).as_integer_ratio()) if m == 2 else math.floor(own + Fraction(1, 2))
            told += " ".join(map(str, (place, self.boats[b - 1].decode(), self.races[r - 1]["times"][b],
                                       self.holds(b, r)[0]["no"], word))) + "\n"
        return list(told.encode())

    def legs(self, r):
        refused = self.refusal([(-3, r)])
        if refused:
            return refused
        number_of_day = (self.races[r - 1]["day"] - datetime.date(1900, 1, 1)).days
        return [number_of_day, self.distance(r)] + [value for leg in self.races[r - 1]["legs"] for value in leg]


class Dealer:
    """Deals calls that are mostly right."""

    def __init__(self, seed):
        self.dice = random.Random(seed)
        self.no = 10

    def day(self):
        return f"2026-0{self.dice.randint(1, 6)}-{self.dice.randint(1, 29):02}"

    def cert_lines(self, name, slips=0.03):
        """A certificate; slips is how often something in it may be wrong."""
        dice = self.dice
        self.no += 1 if dice.random() >= slips else -1
        days = sorted([self.day(), self.day()])
        if slips == 0:
            days = [f"2026-0{dice.randint(1, 3)}-0{dice.randint(1, 9)}", "2026-06-30"]
        yield f"cert {self.no} {name} {days[0]} {days[1]} {dice.randint(8, 12) * 100} {dice.randint(0, 9) * 50}"
        wind, figures = 0, [30, 30, 30]
        for row in range(dice.choice((2, 2, 3, 4, 8, 8) if dice.random() >= slips else (0, 1, 9))):
            wind += dice.randint(0 if dice.random() < slips else 1, 4)
            figures = [max(1, figure - dice.choice((0, 0, 1, 3, 5))) for figure in figures]
            yield "wind {} {} {} {}".format(wind, *figures)

    def text(self):
        dice, told = self.dice, []
        for step in range(dice.randint(1, 4)):
            if dice.random() < 0.3:
                told.append(f"boat {dice.choice('ABCDEFGHIJKLMNOP')}")
            else:
                told.extend(self.cert_lines(dice.choice("ABCDEFGH")))
            told.extend(dice.choice(([], [], ["", "# x"], ["  "])))
        text = as_bytes("\n".join(told) + dice.choice(("", "\n")))
        if text and dice.random() < 0.2:
            text[dice.randrange(len(text))] = dice.choice((10, 32, 48, 57, 65, 31, 127, 35, 45))
        return text

    def whole_fleet(self):
        told = [f"boat {name}" for name in "ABCDEFGH"]
        for name in self.dice.sample("ABCDEFGH", 6):
            told.extend(self.cert_lines(name, slips=0))
        return as_bytes("\n".join(told))

    def legs(self):
        dice = self.dice
        legs = [value for leg in range(dice.randint(1, 4)) for value in (dice.randint(0, 2), dice.randint(1, 300))]
        if dice.random() < 0.05:
            legs[dice.randrange(len(legs))] = dice.choice((-1, 0, 3, 10001))
        return legs[:-1] if dice.random() < 0.02 else legs

    def calls(self):
        dice = self.dice
        yield "load", load, (self.whole_fleet(),)
        yield "race", race, (as_bytes("2026-03-15"), self.legs())
        for b in range(1, 9):
            yield "finish", finish, (1, b, dice.randint(1, 40) * 3)
        for step in range(dice.randint(10, 70)):
            slip = dice.random() < 0.1
            r = dice.choice((0, 2, 3, 7)) if slip else 1
            b = dice.randint(0, 13) if slip else dice.randint(1, 8)
            m = dice.randint(-1, 3) if slip else dice.randint(0, 2)
            draw = dice.random()
            if draw < 0.02:
                yield "load", load, (dice.choice((self.text(), self.text(), self.whole_fleet())),)
            elif draw < 0.10:
                yield "amend", amend, (self.text(),)
            elif draw < 0.13:
                yield "withdraw", withdraw, (dice.randint(0, self.no + 1),)
            elif draw < 0.20:
                yield "race", race, (as_bytes(self.day()), self.legs())
            elif draw < 0.60:
                e = dice.choice((-1, 0, 10 ** 6)) if dice.random() < 0.1 else dice.randint(1, 40) * 3
                yield "finish", finish, (r, b, e)
            else:
                yield self.telling_call(m, r, b)

    def telling_call(self, m, r, b):
        dice = self.dice
        a = dice.randint(0, 13) if dice.random() < 0.05 else dice.randint(1, 8)
        w = dice.choice((-1, 0, 1000, 1001)) if dice.random() < 0.1 else dice.randint(0, 350)
        n = dice.choice((-1, 0, 109572, 109573)) if dice.random() < 0.1 else dice.randint(0, 109572)
        return dice.choice((
            ("printed", printed, ()), ("counting", counting, (b, r)), ("corrected", corrected, (m, r, b)),
            ("order", order, (m, r)), ("wind", wind, (r, b)), ("course", course, (r, b, w)),
            ("margin", margin, (m, r, a, b)), ("margin", margin, (m, r, a, b)), ("swing", swing, (r, a, b)),
            ("page", page, (m, r)),
            ("legs", legs_of, (r,)), ("day", day_of, (as_bytes(self.day()),)), ("date", date_of, (n,))))


class AgainstTheReference(unittest.TestCase):
    def test_random_calls(self):
        for seed in range(600):
            reference = Reference()
            calls, expected = [], []
            for name, call, given in Dealer(seed).calls():
                calls.append(call(*given))
                expected.append(getattr(reference, name)(*given))
            self.assertEqual(ask(*calls), expected, seed)


if __name__ == "__main__":
    unittest.main()
