"""The calls page and legs."""

import unittest

from tests.helper import (
    amend, ask, cert, finish, last, legs_of, lines, load, order, page, race, start, text_of, withdraw,
)

# 4 miles; with the rows of cert() the course takes 3200 s in 5 knots and 2000 s in 10.
LEGS = [0, 100, 1, 200, 2, 100]
FLEET = lines("boat Ant", "boat Bee-2", "boat C") + cert(41, "Ant", factor=900, allowance=600)
FLEET += cert(7, "Bee-2") + cert(999999, "C", factor=800, allowance=1)
BIG = (0, -1, 7, 10 ** 18, -10 ** 18)


class Pages(unittest.TestCase):
    def check(self, way, calls, *told):
        self.assertEqual(text_of(last(*calls, page(way, 1))), lines(*told))

    def test_by_each_way(self):
        calls = start(FLEET, LEGS, 2500, 2600, 3200)
        self.check(0, calls, "race 2026-07-04 400",
                   "1 Ant 2500 41 2250", "2 C 3200 999999 2560", "3 Bee-2 2600 7 2600")
        self.check(1, calls, "race 2026-07-04 400",
                   "1 Ant 2500 41 2260", "2 Bee-2 2600 7 2600", "3 C 3200 999999 3200")
        self.check(2, calls, "race 2026-07-04 400",
                   "1 Ant 2500 41 95/12", "2 Bee-2 2600 7 15/2", "3 C 3200 999999 5/1")

    def test_nobody(self):
        for way in (0, 1, 2):
            self.check(way, start(FLEET, [2, 10000] * 12, on="2199-12-31"), "race 2199-12-31 120000")
            self.check(way, [race("1900-01-01", [0, 1])], "race 1900-01-01 1")
            self.check(way, start("boat A", LEGS, 100), "race 2026-07-04 400")

    def test_only_who_is_told_of(self):
        calls = start(FLEET, LEGS, 0, 2600, 2700) + [withdraw(999999)]
        self.check(0, calls, "race 2026-07-04 400", "1 Bee-2 2600 7 2600")

    def test_of_one_place_the_lesser_number_first(self):
        text = lines("boat Z", "boat Y", "boat X", "boat W")
        text += cert(4, "Z") + cert(3, "Y") + cert(2, "X") + cert(1, "W")
        calls = start(text, LEGS, 2720, 2600, 2720, 3200)
        for way in (0, 1):
            self.check(way, calls, "race 2026-07-04 400",
                       "1 Y 2600 3 2600", "2 Z 2720 4 2720", "2 X 2720 2 2720", "4 W 3200 1 3200")
        self.check(2, calls, "race 2026-07-04 400",
                   "1 Y 2600 3 15/2", "2 Z 2720 4 7/1", "2 X 2720 2 7/1", "4 W 3200 1 5/1")

    def test_to_the_nearest_second_halves_up(self):
        for seconds, factor, told in ((1, 499, 0), (1, 500, 1), (5, 500, 3), (61, 499, 30), (999999, 9999, 9998990)):
            calls = start("boat A\n" + cert(1, "A", factor=factor), LEGS, seconds)
            self.check(0, calls, "race 2026-07-04 400", f"1 A {seconds} 1 {told}")
        for allowance, told in ((15, "0"), (35, "-2"), (36, "-3"), (99999, "-9999")):
            calls = start("boat A\n" + cert(1, "A", allowance=allowance), [1, 100], 1)
            self.check(1, calls, "race 2026-07-04 100", f"1 A 1 1 {told}")

    def test_what_the_nearest_second_hides(self):
        text = lines("boat A", "boat B") + cert(1, "A", factor=1001) + cert(2, "B")
        self.check(0, start(text, LEGS, 90, 90), "race 2026-07-04 400", "1 B 90 2 90", "2 A 90 1 90")

    def test_the_ratio_is_not_told(self):
        text = lines("boat A", "boat B", "boat C", "boat D")
        text += cert(1, "A") + cert(2, "B") + cert(3, "C") + cert(4, "D")
        self.check(2, start(text, LEGS, 999999, 3201, 1999, 1), "race 2026-07-04 400",
                   "1 D 1 4 10/1", "2 C 1999 3 10/1", "3 B 3201 2 5/1", "4 A 999999 1 5/1")

    def test_twelve_boats(self):
        text = lines(*[f"boat b{number}" for number in range(1, 13)])
        text += "".join(cert(100 + number, f"b{number}") for number in range(1, 13))
        calls = start(text, [0, 100], *range(12, 0, -1))
        told = [f"{place} b{13 - place} {place} {113 - place} {place}" for place in range(1, 13)]
        self.check(0, calls, "race 2026-07-04 100", *told)

    def test_in_the_order(self):
        calls = start(FLEET, LEGS, 2500, 2600, 3200)
        for way in (0, 1, 2):
            told, written = ask(*calls, order(way, 1), page(way, 1))[5:]
            words = [line.split(" ") for line in text_of(written).splitlines()[1:]]
            names = ["Ant", "Bee-2", "C"]
            self.assertEqual([(int(word[0]), names.index(word[1]) + 1) for word in words],
                             list(zip(told[1::2], told[2::2])))

    def test_by_the_certificate_that_counts(self):
        calls = start(FLEET, LEGS, 2500) + [amend(cert(50, "Ant", "2026-07-04", "2026-07-04", 500)), page(0, 1)]
        calls += [race("2026-07-05", [0, 7]), finish(2, 1, 2000), page(0, 2), withdraw(50), page(0, 1)]
        told = ask(*calls)
        self.assertEqual(text_of(told[4]), "race 2026-07-04 400\n1 Ant 2500 50 1250\n")
        self.assertEqual(text_of(told[7]), "race 2026-07-05 7\n1 Ant 2000 41 1800\n")
        self.assertEqual(text_of(told[9]), "race 2026-07-04 400\n1 Ant 2500 41 2250\n")

    def test_refusals(self):
        calls = start(FLEET, LEGS, 2500)
        for way in (-1, 3, 10 ** 18, -10 ** 18):
            self.assertEqual(last(*calls, page(way, 1)), [-10])
            self.assertEqual(last(*calls, page(way, 2)), [-10])
        for way in (0, 1, 2):
            for number in (2,) + BIG:
                self.assertEqual(last(*calls, page(way, number)), [-3])


class Legs(unittest.TestCase):
    def test_day_distance_and_legs(self):
        told = ask(race("1900-01-01", [2, 1]), race("2026-07-04", LEGS), race("2199-12-31", [0, 10000, 1, 9999] * 6),
                   legs_of(1), legs_of(2), legs_of(3))
        self.assertEqual(told[3], [0, 1, 2, 1])
        self.assertEqual(told[4], [46205, 400] + LEGS)
        self.assertEqual(told[5], [109572, 119994] + [0, 10000, 1, 9999] * 6)

    def test_as_they_were_told(self):
        for legs in ([2, 30, 0, 10, 1, 20], [0, 5, 0, 5], [0, 10], [1, 1] * 12):
            self.assertEqual(last(race("2026-07-04", legs), legs_of(1)), [46205, sum(legs[1::2])] + legs)

    def test_after_load_there_are_none(self):
        self.assertEqual(last(race("2026-07-04", LEGS), load(FLEET), legs_of(1)), [-3])

    def test_a_race_that_was_refused(self):
        self.assertEqual(ask(race("2026-07-04", LEGS), race("2026-07-04", [3, 1]), legs_of(2), legs_of(1))[2:],
                         [[-3], [46205, 400] + LEGS])

    def test_refusals(self):
        for number in (2,) + BIG:
            self.assertEqual(last(race("2026-07-04", LEGS), legs_of(number)), [-3])
            self.assertEqual(last(legs_of(number)), [-3])


if __name__ == "__main__":
    unittest.main()
