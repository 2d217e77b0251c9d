"""Promises 2 and 4, over many races made from a fixed seed."""

import random
import unittest

from tests.helper import ask, cert, corrected, finish, lines, load, order, race

DAY = "2026-07-04"
WAYS = (0, 1, 2)


def some_rows(dice):
    winds = sorted(dice.sample(range(1, 100), dice.randint(2, 8)))
    figures = [sorted([dice.randint(1, 40) for wind in winds], reverse=True) for kind in range(3)]
    return [f"wind {wind} {beat} {reach} {run}" for wind, beat, reach, run in zip(winds, *figures)]


def some_legs(dice, most=12):
    return [(dice.randint(0, 2), dice.randint(2, 300)) for leg in range(dice.randint(1, most))]


def flat(legs):
    return [number for leg in legs for number in leg]


def some_text(dice, names, alike):
    """A certificate for each name; if they are alike, with the same figures."""
    text = lines(*["boat " + name for name in names])
    figures = (dice.randint(100, 9999), dice.randint(0, 99999), some_rows(dice))
    for number, name in enumerate(names, start=1):
        if not alike:
            figures = (dice.randint(100, 9999), dice.randint(0, 99999), some_rows(dice))
        text += cert(number, name, DAY, DAY, *figures)
    return text


def order_by_boats(answer):
    return {boat: place for place, boat in zip(answer[1::2], answer[2::2])}


class ShorterIsNeverBehind(unittest.TestCase):
    def test_of_boats_alike(self):
        dice = random.Random(2)
        for turn in range(150):
            text = some_text(dice, "ABCDEF", alike=True)
            times = sorted(dice.randint(1, 200) for boat in range(6))
            calls = [load(text), race(DAY, flat(some_legs(dice)))]
            calls += [finish(1, boat, time) for boat, time in enumerate(times, start=1)]
            for answer in ask(*calls, *[order(way, 1) for way in WAYS])[8:]:
                place = order_by_boats(answer)
                for boat in range(1, 6):
                    self.assertLessEqual(place[boat], place[boat + 1])
                    if times[boat - 1] == times[boat]:
                        self.assertEqual(place[boat], place[boat + 1])
                    else:
                        self.assertLess(place[boat], place[boat + 1])

    def test_of_one_boat_against_others(self):
        dice = random.Random(3)
        for turn in range(100):
            calls = [load(some_text(dice, "ABCD", alike=False)), race(DAY, flat(some_legs(dice)))]
            calls += [finish(1, boat, dice.randint(1, 200)) for boat in (2, 3, 4)]
            for time in sorted(dice.randint(1, 200) for step in range(10)):
                calls += [finish(1, 1, time)] + [order(way, 1) for way in WAYS]
            answers = ask(*calls)[5:]
            for way in WAYS:
                places = [order_by_boats(answer)[1] for answer in answers[1 + way::4]]
                self.assertEqual(len(places), 10)
                self.assertEqual(places, sorted(places))


class LegsMakeNoDifference(unittest.TestCase):
    def told(self, text, legs, times):
        calls = [load(text), race(DAY, flat(legs))]
        calls += [finish(1, boat, time) for boat, time in enumerate(times, start=1)]
        calls += [corrected(way, 1, boat) for way in (0, 1) for boat in range(1, len(times) + 1)]
        return ask(*calls, *[order(way, 1) for way in WAYS])

    def test_in_another_order_or_told_as_two(self):
        dice = random.Random(4)
        for turn in range(150):
            text = some_text(dice, "ABCDE", alike=False)
            legs = some_legs(dice, most=11)
            times = [dice.randint(1, 200) for boat in range(5)]
            told = self.told(text, legs, times)
            shuffled = list(legs)
            dice.shuffle(shuffled)
            self.assertEqual(self.told(text, shuffled, times), told)
            self.assertEqual(self.told(text, legs[::-1], times), told)
            place = dice.randrange(len(legs))
            kind, length = legs[place]
            cut = dice.randint(1, length - 1)
            split = legs[:place] + [(kind, cut), (kind, length - cut)] + legs[place + 1:]
            self.assertEqual(self.told(text, split, times), told)

    def test_twelve_short_legs_or_one_long(self):
        text = some_text(random.Random(5), "ABCDE", alike=False)
        times = [70, 80, 90, 100, 110]
        self.assertEqual(self.told(text, [(1, 50)] * 12, times), self.told(text, [(1, 600)], times))


if __name__ == "__main__":
    unittest.main()
