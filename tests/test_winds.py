"""The wind that a time stands for, and the course's time in a wind."""

import unittest

from tests.helper import (
    amend, ask, cert, course, finish, fractions, last, lines, race, start, wind, withdraw,
)

# 4 miles; with the rows of cert() the course takes 3200 s in 5 knots and 2000 s in 10.
LEGS = [0, 100, 1, 200, 2, 100]
BOAT = "boat A\n" + cert(1, "A")
FLEET = lines("boat A", "boat B", "boat C") + cert(1, "A") + cert(2, "B")
FLAT = ("wind 5 900 900 900", "wind 10 600 600 600", "wind 15 600 600 600", "wind 20 300 300 300")
BIG = (0, -1, 7, 10 ** 18, -10 ** 18)


def with_rows(*rows):
    return "boat A\n" + cert(1, "A", rows=rows)


class Wind(unittest.TestCase):
    def check(self, text, legs, seconds, *told):
        self.assertEqual(fractions(last(*start(text, legs, seconds), wind(1, 1))), list(told), seconds)

    def test_the_bytes(self):
        answer = last(*start(BOAT, LEGS, 3120), wind(1, 1))
        self.assertEqual(answer, [4] + list(b"16/3") + [3] + list(b"1/1"))

    def test_between_two_rows(self):
        self.check(BOAT, LEGS, 2720, "7/1", "1/1")
        self.check(BOAT, LEGS, 3120, "16/3", "1/1")
        self.check(BOAT, LEGS, 2600, "15/2", "1/1")
        self.check(BOAT, LEGS, 3199, "1201/240", "1/1")
        self.check(BOAT, LEGS, 2001, "2399/240", "1/1")

    def test_at_the_rows(self):
        self.check(BOAT, LEGS, 3200, "5/1", "1/1")
        self.check(BOAT, LEGS, 2000, "10/1", "1/1")
        self.check(with_rows(*FLAT[:2], "wind 16 300 300 300"), LEGS, 2400, "10/1", "1/1")

    def test_slower_than_in_the_first_rows_wind(self):
        self.check(BOAT, LEGS, 3201, "5/1", "3201/3200")
        self.check(BOAT, LEGS, 6400, "5/1", "2/1")
        self.check(BOAT, LEGS, 999999, "5/1", "999999/3200")

    def test_faster_than_in_the_last_rows_wind(self):
        self.check(BOAT, LEGS, 1999, "10/1", "1999/2000")
        self.check(BOAT, LEGS, 1500, "10/1", "3/4")
        self.check(BOAT, LEGS, 1, "10/1", "1/2000")

    def test_the_course_in_hundredths_of_a_second(self):
        rows = ("wind 1 301 2 2", "wind 3 101 2 1")
        self.check(with_rows(*rows), [0, 1], 4, "1/1", "400/301")
        self.check(with_rows(*rows), [0, 1], 3, "101/100", "1/1")
        self.check(with_rows(*rows), [0, 1], 2, "201/100", "1/1")
        self.check(with_rows(*rows), [0, 1], 1, "3/1", "100/101")

    def test_rows_whose_times_are_alike(self):
        self.check(with_rows(*FLAT), LEGS, 2401, "2399/240", "1/1")
        self.check(with_rows(*FLAT), LEGS, 2400, "10/1", "1/1")
        self.check(with_rows(*FLAT), LEGS, 2399, "3601/240", "1/1")
        self.check(with_rows(*FLAT), LEGS, 2160, "16/1", "1/1")

    def test_the_first_rows_alike(self):
        rows = ("wind 4 900 900 900",) + FLAT[:2]
        self.check(with_rows(*rows), LEGS, 3601, "4/1", "3601/3600")
        self.check(with_rows(*rows), LEGS, 3600, "4/1", "1/1")
        self.check(with_rows(*rows), LEGS, 3599, "1201/240", "1/1")

    def test_the_last_rows_alike(self):
        self.check(with_rows(*FLAT[:3]), LEGS, 2400, "10/1", "1/1")
        self.check(with_rows(*FLAT[:3]), LEGS, 2399, "15/1", "2399/2400")

    def test_all_rows_alike(self):
        rows = ("wind 5 900 900 900", "wind 10 900 900 900")
        self.check(with_rows(*rows), LEGS, 3601, "5/1", "3601/3600")
        self.check(with_rows(*rows), LEGS, 3600, "5/1", "1/1")
        self.check(with_rows(*rows), LEGS, 3599, "10/1", "3599/3600")

    def test_rows_alike_on_this_course_alone(self):
        rows = ("wind 5 900 800 700", "wind 10 900 500 400", "wind 15 300 300 300")
        self.check(with_rows(*rows), [0, 100], 900, "5/1", "1/1")
        self.check(with_rows(*rows), [0, 100], 899, "1201/120", "1/1")
        self.check(with_rows(*rows), [1, 100], 650, "15/2", "1/1")
        self.check(with_rows(*rows), [2, 100], 350, "25/2", "1/1")

    def test_the_greatest_numbers(self):
        text = with_rows("wind 1 9999 9999 9999", "wind 99 1 1 1")
        self.check(text, [0, 10000] * 12, 999999, "181646683/1999600", "1/1")
        self.check(text, [0, 10000] * 12, 1199, "99/1", "1199/1200")
        self.check(text, [0, 1], 999999, "1/1", "1010100/101")

    def test_by_the_certificate_that_counts(self):
        calls = start(BOAT, LEGS, 2720) + [race("2026-07-05", LEGS), finish(2, 1, 2720)]
        calls += [amend(cert(2, "A", "2026-07-05", rows=FLAT)), wind(1, 1), wind(2, 1), withdraw(2), wind(2, 1)]
        told = ask(*calls)
        self.assertEqual(fractions(told[6]), ["7/1", "1/1"])
        self.assertEqual(fractions(told[7]), ["26/3", "1/1"])
        self.assertEqual(fractions(told[9]), ["7/1", "1/1"])

    def test_refusals(self):
        calls = start(FLEET, LEGS, 3000, 0, 3000)
        for number in (2,) + BIG:
            self.assertEqual(last(*calls, wind(number, 1)), [-3])
            self.assertEqual(last(*calls, wind(number, 0)), [-3])
        for number in (4,) + BIG:
            self.assertEqual(last(*calls, wind(1, number)), [-2])
        self.assertEqual(last(*calls, wind(1, 2)), [-6])
        self.assertEqual(last(*calls, wind(1, 3)), [-6])
        self.assertEqual(last(*calls, finish(1, 1, 0), wind(1, 1)), [-6])
        self.assertEqual(last(*calls, withdraw(1), wind(1, 1)), [-6])
        self.assertEqual(last(*calls, race("2027-01-01", LEGS), finish(2, 1, 9), wind(2, 1)), [-6])


class CoursesTime(unittest.TestCase):
    def check(self, text, legs, tenths, told):
        self.assertEqual(fractions(last(*start(text, legs), course(1, 1, tenths))), [told], tenths)

    def test_the_bytes(self):
        self.assertEqual(last(*start(BOAT, LEGS), course(1, 1, 70)), [8] + list(b"272000/1"))

    def test_between_two_rows(self):
        for tenths, told in ((51, 317600), (70, 272000), (75, 260000), (99, 202400)):
            self.check(BOAT, LEGS, tenths, f"{told}/1")

    def test_at_the_rows(self):
        self.check(BOAT, LEGS, 50, "320000/1")
        self.check(BOAT, LEGS, 100, "200000/1")

    def test_in_less_wind_than_the_first_rows(self):
        for tenths in (0, 1, 9, 10, 49):
            self.check(BOAT, LEGS, tenths, "320000/1")

    def test_in_more_wind_than_the_last_rows(self):
        for tenths in (101, 109, 110, 999, 1000):
            self.check(BOAT, LEGS, tenths, "200000/1")

    def test_fractions(self):
        text = with_rows("wind 5 900 800 700", "wind 8 899 799 693")
        self.check(text, [0, 1], 51, "26999/30")
        self.check(text, [0, 1], 60, "2699/3")
        self.check(text, [0, 1], 65, "1799/2")
        self.check(text, [0, 1], 79, "26971/30")
        self.check(text, [2, 7], 55, "29351/6")
        self.check(text, [0, 1, 1, 1, 2, 1], 65, "4791/2")

    def test_from_row_to_row(self):
        for tenths, told in ((50, 360000), (75, 300000), (100, 240000), (101, 240000), (149, 240000),
                             (150, 240000), (151, 237600), (199, 122400), (200, 120000), (201, 120000)):
            self.check(with_rows(*FLAT), LEGS, tenths, f"{told}/1")

    def test_the_least_and_the_most_wind(self):
        text = with_rows("wind 1 9999 9999 9999", "wind 99 1 1 1")
        for tenths, told in ((0, "1199880000/1"), (10, "1199880000/1"), (11, "58734132000/49"),
                             (989, "65868000/49"), (990, "120000/1"), (1000, "120000/1")):
            self.check(text, [0, 10000] * 12, tenths, told)

    def test_who_has_not_finished(self):
        calls = start(BOAT, LEGS)
        told = [last(*calls, finish(1, 1, seconds), course(1, 1, 70)) for seconds in (0, 1, 2720, 999999)]
        self.assertEqual(told, [[8] + list(b"272000/1")] * 4)

    def test_by_the_certificate_that_counts(self):
        calls = start(BOAT, LEGS) + [race("2026-07-05", [0, 100]), amend(cert(2, "A", "2026-07-05", rows=FLAT))]
        told = ask(*calls, course(1, 1, 70), course(2, 1, 70))
        self.assertEqual([fractions(answer) for answer in told[4:]], [["272000/1"], ["78000/1"]])

    def test_refusals(self):
        calls = start(FLEET, LEGS, 3000)
        for number in (2,) + BIG:
            self.assertEqual(last(*calls, course(number, 1, 70)), [-3])
            self.assertEqual(last(*calls, course(number, 0, -1)), [-3])
        for number in (4,) + BIG:
            self.assertEqual(last(*calls, course(1, number, 70)), [-2])
            self.assertEqual(last(*calls, course(1, number, -1)), [-2])
        for tenths in (-1, 1001, 10 ** 18, -10 ** 18):
            self.assertEqual(last(*calls, course(1, 1, tenths)), [-10])
            self.assertEqual(last(*calls, course(1, 3, tenths)), [-10])
        self.assertEqual(last(*calls, course(1, 3, 70)), [-6])
        self.assertEqual(last(*calls, finish(1, 3, 50), course(1, 3, 70)), [-6])
        self.assertEqual(last(*calls, withdraw(1), course(1, 1, 70)), [-6])


if __name__ == "__main__":
    unittest.main()
