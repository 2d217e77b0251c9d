"""Promises 1 to 4, by examples and over many races made from a fixed seed."""

import random
import unittest
from fractions import Fraction

from boathandicaps.races import course_time_in, wind_and_ratio
from tests.helper import (
    ask, cert, corrected, course, finish, fractions, last, legs_of, lines, load, margin, order, page, race, start, wind,
)

DAY = "2026-07-04"
WAYS = (0, 1, 2)


def some_rows(dice):
    winds = sorted(dice.sample(range(1, 100), dice.randint(2, 8)))
    figures = [sorted([dice.randint(1, 40) for wind in winds], reverse=True) for kind in range(3)]
    return [f"wind {wind} {beat} {reach} {run}" for wind, beat, reach, run in zip(winds, *figures)]


def some_legs(dice, most=12):
    return [(dice.randint(0, 2), dice.randint(2, 300)) for leg in range(dice.randint(1, most))]


def flat(legs):
    return [number for leg in legs for number in leg]


def some_text(dice, names, alike):
    """A certificate for each name; if they are alike, with the same figures."""
    text = lines(*["boat " + name for name in names])
    figures = (dice.randint(100, 9999), dice.randint(0, 99999), some_rows(dice))
    for number, name in enumerate(names, start=1):
        if not alike:
            figures = (dice.randint(100, 9999), dice.randint(0, 99999), some_rows(dice))
        text += cert(number, name, DAY, DAY, *figures)
    return text


def order_by_boats(answer):
    return {boat: place for place, boat in zip(answer[1::2], answer[2::2])}


class TheWindThatATimeStandsFor(unittest.TestCase):
    """Promise 1."""

    # On one mile's beat: 900 s in 5 knots, 600 s in 10, 600 s in 15, 300 s in 20.
    ROWS = ("wind 5 900 9 9", "wind 10 600 9 9", "wind 15 600 9 9", "wind 20 300 9 9")

    def test_examples(self):
        text = "boat A\n" + cert(1, "A", rows=self.ROWS)
        examples = ((900, "5/1", 50), (840, "6/1", 60), (834, "61/10", 61), (606, "99/10", 99), (600, "10/1", 100),
                    (594, "151/10", 151), (450, "35/2", 175), (306, "199/10", 199), (300, "20/1", 200))
        for seconds, knots, tenths in examples:
            told = ask(*start(text, [0, 100], seconds), wind(1, 1), course(1, 1, tenths))[3:]
            self.assertEqual([fractions(answer) for answer in told], [[knots, "1/1"], [f"{100 * seconds}/1"]])

    def test_the_least_such_wind(self):
        text = "boat A\n" + cert(1, "A", rows=self.ROWS)
        courses = [course(1, 1, tenths) for tenths in (99, 100, 149, 150, 151)]
        told = ask(*start(text, [0, 100], 600), wind(1, 1), *courses)
        self.assertEqual([fractions(answer)[0] for answer in told[3:]],
                         ["10/1", "60600/1", "60000/1", "60000/1", "60000/1", "59400/1"])

    def test_told_in_tenths_of_a_knot(self):
        dice = random.Random(11)
        hits = 0
        for turn in range(400):
            text = some_text(dice, "A", alike=False)
            legs = flat(some_legs(dice))
            seconds = dice.randint(1, 200)
            knots, ratio = fractions(last(*start(text, legs, seconds), wind(1, 1)))
            tenths = 10 * Fraction(knots)
            if tenths.denominator == 1:
                time = fractions(last(*start(text, legs, seconds), course(1, 1, tenths.numerator)))
                self.assertEqual(Fraction(time[0]) * Fraction(ratio), 100 * seconds)
                hits += 1
        self.assertGreater(hits, 100)

    def test_any_wind(self):
        dice = random.Random(12)
        between = 0
        for turn in range(2000):
            rows = [tuple(int(word) for word in row.split()[1:]) for row in some_rows(dice)]
            legs = some_legs(dice)
            seconds = dice.randint(1, 200)
            knots, ratio = wind_and_ratio(rows, legs, seconds)
            self.assertTrue(rows[0][0] <= Fraction(*knots) <= rows[-1][0])
            time = Fraction(*course_time_in(legs, rows, knots))
            self.assertEqual(time * Fraction(*ratio), 100 * seconds)
            if rows[0][0] < Fraction(*knots) < rows[-1][0]:
                between += 1
                self.assertEqual(time, 100 * seconds)
                less = Fraction(*knots) - Fraction(1, 10 ** 9)
                self.assertGreater(Fraction(*course_time_in(legs, rows, less.as_integer_ratio())), time)
        self.assertGreater(between, 500)


class ShorterIsNeverBehind(unittest.TestCase):
    """Promise 2."""

    def test_examples_of_one_boat(self):
        text = lines("boat A", "boat B") + cert(1, "A", factor=777, allowance=333)
        text += cert(2, "B", factor=777, allowance=333)
        # On one mile's beat her rows tell 900 s and 600 s.
        for shorter, longer in ((1, 2), (599, 600), (600, 601), (700, 701), (899, 900), (900, 901), (1, 999999)):
            for way in WAYS:
                self.assertEqual(last(*start(text, [0, 100], shorter, longer), order(way, 1)), [2, 1, 1, 2, 2])
                self.assertEqual(last(*start(text, [0, 100], longer, shorter), order(way, 1)), [2, 1, 2, 2, 1])
                self.assertEqual(last(*start(text, [0, 100], longer), margin(way, 1, 1, 1)), [longer - 1])

    def test_of_boats_alike(self):
        dice = random.Random(2)
        for turn in range(150):
            text = some_text(dice, "ABCDEF", alike=True)
            times = sorted(dice.randint(1, 200) for boat in range(6))
            calls = [load(text), race(DAY, flat(some_legs(dice)))]
            calls += [finish(1, boat, time) for boat, time in enumerate(times, start=1)]
            for answer in ask(*calls, *[order(way, 1) for way in WAYS])[8:]:
                place = order_by_boats(answer)
                for boat in range(1, 6):
                    self.assertLessEqual(place[boat], place[boat + 1])
                    if times[boat - 1] == times[boat]:
                        self.assertEqual(place[boat], place[boat + 1])
                    else:
                        self.assertLess(place[boat], place[boat + 1])

    def test_of_one_boat_against_others(self):
        dice = random.Random(3)
        for turn in range(100):
            calls = [load(some_text(dice, "ABCD", alike=False)), race(DAY, flat(some_legs(dice)))]
            calls += [finish(1, boat, dice.randint(1, 200)) for boat in (2, 3, 4)]
            for time in sorted(dice.randint(1, 200) for step in range(10)):
                calls += [finish(1, 1, time)] + [order(way, 1) for way in WAYS]
            answers = ask(*calls)[5:]
            for way in WAYS:
                places = [order_by_boats(answer)[1] for answer in answers[1 + way::4]]
                self.assertEqual(len(places), 10)
                self.assertEqual(places, sorted(places))


class AheadUpToTheMargin(unittest.TestCase):
    """Promise 3."""

    def ahead(self, calls, way, seconds):
        place = order_by_boats(last(*calls, finish(1, 1, seconds), order(way, 1)))
        return place[1] < place[2]

    def test_at_the_margin_and_one_second_more(self):
        dice = random.Random(21)
        met = {way: 0 for way in WAYS}
        for turn in range(150):
            calls = start(some_text(dice, "AB", alike=False), flat(some_legs(dice)), 1, dice.randint(1, 400))
            for way in WAYS:
                seconds = last(*calls, margin(way, 1, 1, 2))[0]
                self.assertTrue(0 <= seconds <= 999999)
                self.assertTrue(seconds == 0 or self.ahead(calls, way, seconds))
                self.assertFalse(seconds < 999999 and self.ahead(calls, way, seconds + 1))
                met[way] += 0 < seconds < 999999
        self.assertGreater(min(met.values()), 20)

    def test_every_two_boats(self):
        dice = random.Random(22)
        for turn in range(60):
            times = [dice.randint(1, 200) for boat in range(5)]
            calls = start(some_text(dice, "ABCDE", alike=turn % 3 == 0), flat(some_legs(dice)), *times)
            for way in WAYS:
                place = order_by_boats(last(*calls, order(way, 1)))
                pairs = [(one, other) for one in place for other in place]
                told = ask(*calls, *[margin(way, 1, *pair) for pair in pairs])[-len(pairs):]
                for (one, other), answer in zip(pairs, told):
                    self.assertEqual(place[one] < place[other], times[one - 1] <= answer[0])

    def test_every_time(self):
        text = lines("boat A", "boat B")
        text += cert(1, "A", factor=1100, allowance=120, rows=("wind 4 50 9 9", "wind 9 30 9 9"))
        text += cert(2, "B", factor=1000, allowance=200, rows=("wind 5 40 9 9", "wind 8 20 9 9"))
        for way in WAYS:
            calls = start(text, [0, 100], 1, 30)
            seconds = last(*calls, margin(way, 1, 1, 2))[0]
            times = range(1, 61)
            ahead = [time for time in times if self.ahead(calls, way, time)]
            self.assertEqual(ahead, [time for time in times if time <= seconds])
            self.assertTrue(0 < len(ahead) < len(times))


class LegsMakeNoDifference(unittest.TestCase):
    """Promise 4."""

    def told(self, text, legs, times):
        calls = start(text, flat(legs), *times)
        boats = range(1, len(times) + 1)
        calls += [corrected(way, 1, boat) for way in (0, 1) for boat in boats] + [wind(1, boat) for boat in boats]
        calls += [course(1, boat, tenths) for boat in boats for tenths in (0, 55, 123, 480, 1000)]
        calls += [margin(way, 1, boat, 1) for way in WAYS for boat in boats]
        given = ask(*calls, *[order(way, 1) for way in WAYS], *[page(way, 1) for way in WAYS], legs_of(1))
        # The day and the distance are alike; the legs themselves are told as they were handed in.
        return given[:-1] + [given[-1][:2]]

    def test_in_another_order_or_told_as_two(self):
        dice = random.Random(4)
        for turn in range(150):
            text = some_text(dice, "ABCDE", alike=False)
            legs = some_legs(dice, most=11)
            times = [dice.randint(1, 200) for boat in range(5)]
            told = self.told(text, legs, times)
            shuffled = list(legs)
            dice.shuffle(shuffled)
            self.assertEqual(self.told(text, shuffled, times), told)
            self.assertEqual(self.told(text, legs[::-1], times), told)
            place = dice.randrange(len(legs))
            kind, length = legs[place]
            cut = dice.randint(1, length - 1)
            split = legs[:place] + [(kind, cut), (kind, length - cut)] + legs[place + 1:]
            self.assertEqual(self.told(text, split, times), told)

    def test_examples(self):
        text = lines("boat A", "boat B") + cert(1, "A", allowance=100) + cert(2, "B", factor=950)
        told = self.told(text, [(0, 100), (1, 200), (2, 100)], [2720, 2600])
        self.assertEqual(self.told(text, [(2, 100), (0, 100), (1, 200)], [2720, 2600]), told)
        self.assertEqual(self.told(text, [(0, 100), (1, 150), (1, 50), (2, 100)], [2720, 2600]), told)
        self.assertEqual(self.told(text, [(1, 199), (0, 99), (2, 100), (0, 1), (1, 1)], [2720, 2600]), told)
        self.assertNotEqual(self.told(text, [(0, 100), (1, 200), (2, 101)], [2720, 2600]), told)
        self.assertNotEqual(self.told(text, [(1, 100), (1, 200), (2, 100)], [2720, 2600]), told)

    def test_twelve_short_legs_or_one_long(self):
        text = some_text(random.Random(5), "ABCDE", alike=False)
        times = [70, 80, 90, 100, 110]
        self.assertEqual(self.told(text, [(1, 50)] * 12, times), self.told(text, [(1, 600)], times))


if __name__ == "__main__":
    unittest.main()
