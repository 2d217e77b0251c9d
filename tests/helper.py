"""Builds lists of calls, and takes their answers apart."""

from boathandicaps.certificates import answers


def as_bytes(text):
    return list(text.encode("latin-1")) if isinstance(text, str) else list(text)


def row(numbers):
    return [len(numbers)] + list(numbers)


def load(text):
    return [0] + row(as_bytes(text))


def printed():
    return [1]


def amend(text):
    return [2] + row(as_bytes(text))


def withdraw(n):
    return [3, n]


def race(date, legs):
    return [4] + row(as_bytes(date)) + row(legs)


def finish(r, b, e):
    return [5, r, b, e]


def counting(b, r):
    return [6, b, r]


def corrected(m, r, b):
    return [7, m, r, b]


def order(m, r):
    return [8, m, r]


def wind(r, b):
    return [9, r, b]


def course(r, b, w):
    """The call time."""
    return [10, r, b, w]


def margin(m, r, a, b):
    return [11, m, r, a, b]


def swing(r, a, b):
    return [12, r, a, b]


def day_of(text):
    """The call day."""
    return [13] + row(as_bytes(text))


def date_of(n):
    """The call date."""
    return [14, n]


def page(m, r):
    return [15, m, r]


def legs_of(r):
    """The call legs."""
    return [16, r]


def ask(*calls):
    """One list of answers for each call."""
    given = answers([number for call in calls for number in call])
    apart = []
    at = 0
    while at < len(given):
        size = given[at]
        apart.append(given[at + 1:at + 1 + size])
        at += 1 + size
    assert at == len(given)
    assert len(apart) == len(calls)
    return apart


def last(*calls):
    return ask(*calls)[-1]


def lines(*rows):
    return "".join(text + "\n" for text in rows)


def text_of(answer):
    return bytes(answer).decode("ascii")


def time_and_fraction(answer):
    """What corrected answers: the seconds and the fraction's text, its count checked."""
    assert answer[1] == len(answer) - 2
    return answer[0], text_of(answer[2:])


def fractions(answer):
    """Texts counted, one behind another."""
    texts = []
    at = 0
    while at < len(answer):
        end = at + 1 + answer[at]
        assert end <= len(answer)
        texts.append(text_of(answer[at + 1:end]))
        at = end
    return texts


def start(text, legs, *seconds, on="2026-07-04"):
    """Calls that load the text, make one race, and let boats 1, 2, .. finish."""
    calls = [load(text), race(on, legs)]
    return calls + [finish(1, boat, time) for boat, time in enumerate(seconds, start=1)]


def cert(no, boat, first="2026-01-01", last_day="2026-12-31", factor=1000, allowance=0,
         rows=("wind 5 900 800 700", "wind 10 600 500 400")):
    return lines(f"cert {no} {boat} {first} {last_day} {factor} {allowance}", *rows)
