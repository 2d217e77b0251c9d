"""Margin and swing: how slow a boat might have been, and by which factor she'd have lost."""

import unittest

from tests.helper import amend, ask, cert, finish, last, lines, margin, order, race, start, swing, withdraw

# 4 miles; with the rows of cert() the course takes 3200 s in 5 knots and 2000 s in 10.
LEGS = [0, 100, 1, 200, 2, 100]
ROWS = ("wind 5 900 800 700", "wind 10 600 500 400")
FLAT = ("wind 5 900 900 900", "wind 10 600 600 600", "wind 15 600 600 600", "wind 20 300 300 300")
FLEET = lines("boat A", "boat B", "boat C") + cert(1, "A") + cert(2, "B")
BIG = (0, -1, 7, 10 ** 18, -10 ** 18)


def gauge(wind, over=0):
    """Rows in which 400 seconds and more stand for the wind, with this ratio over 1 (in 400ths)."""
    return (f"wind {wind} 100 100 100", "wind 99 1 1 1"), 400 + over


class Margins(unittest.TestCase):
    """The calls of two boats, A with 1 second, B with hers; what is asked is A's margin."""

    def check(self, way, calls, seconds):
        self.assertEqual(last(*calls, margin(way, 1, 1, 2)), [seconds])
        # With the margin she's ahead, with one second more she isn't.
        ahead, level, behind = [2, 1, 1, 2, 2], [2, 1, 1, 1, 2], [2, 1, 2, 2, 1]
        if seconds > 0:
            self.assertEqual(last(*calls, finish(1, 1, seconds), order(way, 1)), ahead)
        if seconds < 999999:
            self.assertIn(last(*calls, finish(1, 1, seconds + 1), order(way, 1)), (level, behind))

    def on_time(self, factors, seconds):
        text = lines("boat A", "boat B") + cert(1, "A", factor=factors[0]) + cert(2, "B", factor=factors[1])
        return start(text, LEGS, 1, seconds)

    def on_distance(self, allowances, seconds, legs=LEGS):
        text = lines("boat A", "boat B") + cert(1, "A", allowance=allowances[0]) + cert(2, "B", allowance=allowances[1])
        return start(text, legs, 1, seconds)

    def by_wind(self, gauge_rows, seconds, rows=ROWS):
        return start(lines("boat A", "boat B") + cert(1, "A", rows=rows) + cert(2, "B", rows=gauge_rows), LEGS,
                     1, seconds)

    def test_time_on_time(self):
        self.check(0, self.on_time((1000, 900), 100), 89)
        self.check(0, self.on_time((1000, 900), 101), 90)
        self.check(0, self.on_time((900, 1000), 90), 99)
        self.check(0, self.on_time((900, 1000), 91), 101)
        self.check(0, self.on_time((1000, 1000), 3600), 3599)

    def test_time_on_time_at_the_ends(self):
        self.check(0, self.on_time((100, 9999), 10000), 999899)
        self.check(0, self.on_time((100, 9999), 10001), 999999)
        self.check(0, self.on_time((100, 9999), 10002), 999999)
        self.check(0, self.on_time((100, 9999), 999999), 999999)
        self.check(0, self.on_time((9999, 100), 99), 0)
        self.check(0, self.on_time((9999, 100), 100), 1)
        self.check(0, self.on_time((1000, 1000), 1), 0)
        self.check(0, self.on_time((1000, 1000), 2), 1)
        self.check(0, self.on_time((1000, 1000), 999999), 999998)

    def test_time_on_distance(self):
        self.check(1, self.on_distance((0, 0), 100), 99)
        self.check(1, self.on_distance((0, 100), 100), 59)
        self.check(1, self.on_distance((100, 0), 100), 139)
        self.check(1, self.on_distance((0, 1), 100, [0, 1]), 99)
        self.check(1, self.on_distance((1, 0), 100, [0, 1]), 100)

    def test_time_on_distance_at_the_ends(self):
        self.check(1, self.on_distance((0, 100), 40), 0)
        self.check(1, self.on_distance((0, 100), 41), 0)
        self.check(1, self.on_distance((0, 100), 42), 1)
        self.check(1, self.on_distance((0, 99999), 1, [0, 10000] * 12), 0)
        self.check(1, self.on_distance((99999, 0), 1, [0, 10000] * 12), 999999)
        self.check(1, self.on_distance((100, 0), 999959), 999998)
        self.check(1, self.on_distance((100, 0), 999960), 999999)
        self.check(1, self.on_distance((100, 0), 999961), 999999)

    def test_by_wind_between_two_rows(self):
        self.check(2, self.by_wind(*gauge(7)), 2719)
        self.check(2, self.by_wind(("wind 5 200 200 200", "wind 6 125 125 125"), 700), 3119)
        self.check(2, self.by_wind(("wind 5 200 200 200", "wind 6 125 125 125"), 701), 3120)

    def test_by_wind_at_the_rows(self):
        self.check(2, self.by_wind(*gauge(5)), 3199)
        self.check(2, self.by_wind(*gauge(5, 1)), 3207)
        self.check(2, self.by_wind(*gauge(10)), 1999)
        self.check(2, self.by_wind(*gauge(10, 1)), 2000)
        self.check(2, self.by_wind(("wind 9 200 200 200", "wind 10 100 100 100"), 300), 1499)

    def test_by_wind_at_the_ends(self):
        self.check(2, self.by_wind(*gauge(4)), 999999)
        self.check(2, self.by_wind(*gauge(4, 999)), 999999)
        self.check(2, self.by_wind(*gauge(11)), 0)
        self.check(2, self.by_wind(("wind 9 2000 2000 2000", "wind 10 2000 2000 2000"), 1), 0)
        self.check(2, self.by_wind(("wind 5 9 9 9", "wind 10 1 1 1"), 999999, FLAT), 999999)

    def test_by_wind_where_rows_are_alike(self):
        self.check(2, self.by_wind(*gauge(10), FLAT), 2399)
        self.check(2, self.by_wind(*gauge(11), FLAT), 2399)
        self.check(2, self.by_wind(*gauge(15), FLAT), 2399)
        self.check(2, self.by_wind(*gauge(16), FLAT), 2159)
        self.check(2, self.by_wind(*gauge(9), FLAT), 2639)
        self.check(2, self.by_wind(*gauge(12), FLAT[:3]), 2399)
        self.check(2, self.by_wind(*gauge(15), FLAT[:3]), 2399)
        self.check(2, self.by_wind(*gauge(16), FLAT[:3]), 0)

    def test_her_time_as_it_is_makes_no_difference(self):
        text = lines("boat A", "boat B") + cert(1, "A") + cert(2, "B")
        for seconds in (1, 50, 2500, 999999):
            for way in (0, 1, 2):
                self.assertEqual(last(*start(text, LEGS, seconds, 2600), margin(way, 1, 1, 2)), [2599])

    def test_against_herself(self):
        text = "boat A\n" + cert(1, "A", factor=777, allowance=321)
        for seconds in (1, 2, 1999, 2000, 2001, 2600, 3199, 3200, 3201, 999999):
            for way in (0, 1, 2):
                self.assertEqual(last(*start(text, LEGS, seconds), margin(way, 1, 1, 1)), [seconds - 1])

    def test_against_herself_where_rows_are_alike(self):
        text = "boat A\n" + cert(1, "A", rows=FLAT)
        for seconds in (2399, 2400, 2401):
            self.assertEqual(last(*start(text, LEGS, seconds), margin(2, 1, 1, 1)), [seconds - 1])

    def test_changes_nothing(self):
        calls = start(FLEET, LEGS, 2500, 2600)
        told = ask(*calls, *[margin(way, 1, 1, 2) for way in (0, 1, 2)], finish(1, 1, 1), finish(1, 2, 1))
        self.assertEqual(told[4:], [[2599], [2599], [2599], [2500], [2600]])

    def test_by_the_certificates_that_count(self):
        calls = start(FLEET, LEGS, 2500, 2600) + [race("2026-07-05", LEGS), finish(2, 1, 9), finish(2, 2, 2600)]
        calls += [amend(cert(3, "A", "2026-07-05", factor=500) + cert(4, "B", "2026-07-05", factor=250))]
        told = ask(*calls, margin(0, 1, 1, 2), margin(0, 2, 1, 2), margin(0, 2, 2, 1))
        self.assertEqual(told[8:], [[2599], [1299], [17]])

    def test_refusals(self):
        calls = start(FLEET, LEGS, 3000, 3100, 50) + [race("2026-07-04", LEGS), finish(2, 2, 1)]
        for way in (-1, 3, 10 ** 18, -10 ** 18):
            self.assertEqual(last(*calls, margin(way, 1, 1, 2)), [-10])
            self.assertEqual(last(*calls, margin(way, 0, 0, 0)), [-10])
        for way in (0, 1, 2):
            for number in (3,) + BIG:
                self.assertEqual(last(*calls, margin(way, number, 1, 2)), [-3])
                self.assertEqual(last(*calls, margin(way, number, 0, 4)), [-3])
            for number in (4,) + BIG:
                self.assertEqual(last(*calls, margin(way, 1, number, 2)), [-2])
                self.assertEqual(last(*calls, margin(way, 1, 1, number)), [-2])
                self.assertEqual(last(*calls, margin(way, 1, 3, number)), [-2])
                self.assertEqual(last(*calls, margin(way, 1, number, 3)), [-2])
            for pair in ((1, 3), (3, 1), (3, 3)):
                self.assertEqual(last(*calls, margin(way, 1, *pair)), [-6])
            for pair in ((1, 2), (2, 1), (1, 1)):
                self.assertEqual(last(*calls, margin(way, 2, *pair)), [-6])
            self.assertEqual(last(*calls, withdraw(2), margin(way, 1, 1, 2)), [-6])
            self.assertEqual(last(*calls, withdraw(1), margin(way, 1, 1, 2)), [-6])


class Swing(unittest.TestCase):
    def told(self, seconds, other_seconds, other_factor, factor=1000):
        text = lines("boat A", "boat B") + cert(1, "A", factor=factor) + cert(2, "B", factor=other_factor)
        return last(*start(text, LEGS, seconds, other_seconds), swing(1, 1, 2))

    def test_the_greatest_factor(self):
        self.assertEqual(self.told(100, 100, 1000), [999])
        self.assertEqual(self.told(100, 99, 1000), [989])
        self.assertEqual(self.told(3600, 3333, 977), [904])
        self.assertEqual(self.told(7, 10, 1000), [1428])
        self.assertEqual(self.told(8, 10, 1000), [1249])

    def test_with_it_she_is_ahead_and_with_one_more_not(self):
        for seconds, other_seconds, other_factor in ((100, 99, 1000), (3600, 3333, 977), (8, 10, 1000), (2, 1, 9999)):
            factor = self.told(seconds, other_seconds, other_factor)[0]
            ahead = []
            for more in (0, 1):
                text = lines("boat A", "boat B") + cert(1, "A", factor=factor + more)
                text += cert(2, "B", factor=other_factor)
                ahead.append(last(*start(text, LEGS, seconds, other_seconds), order(0, 1)) == [2, 1, 1, 2, 2])
            self.assertEqual(ahead, [True, False])

    def test_none(self):
        self.assertEqual(self.told(10, 1, 1001), [100])
        self.assertEqual(self.told(10, 1, 1000), [0])
        self.assertEqual(self.told(999999, 1, 9999), [0])
        self.assertEqual(self.told(100, 100, 100), [0])
        self.assertEqual(self.told(100, 100, 101), [100])

    def test_the_most(self):
        self.assertEqual(self.told(1, 10, 999), [9989])
        self.assertEqual(self.told(1, 10, 1000), [9999])
        self.assertEqual(self.told(1, 2, 5000), [9999])
        self.assertEqual(self.told(1, 3, 3333), [9998])
        self.assertEqual(self.told(1, 11, 1000), [9999])
        self.assertEqual(self.told(1, 999999, 9999), [9999])

    def test_her_factor_as_it_is_makes_no_difference(self):
        for factor in (100, 999, 1000, 9999):
            self.assertEqual(self.told(100, 100, 1000, factor), [999])

    def test_against_herself(self):
        for factor, told in ((1000, 999), (101, 100), (100, 0), (9999, 9998)):
            for seconds in (1, 77, 999999):
                calls = start("boat A\n" + cert(1, "A", factor=factor), LEGS, seconds)
                self.assertEqual(last(*calls, swing(1, 1, 1)), [told])

    def test_changes_nothing(self):
        told = ask(*start(FLEET, LEGS, 100, 90), swing(1, 1, 2), swing(1, 2, 1), order(0, 1))
        self.assertEqual(told[4:], [[899], [1111], [2, 1, 2, 2, 1]])

    def test_by_the_certificate_that_counts(self):
        calls = start(FLEET, LEGS, 100, 100) + [race("2026-07-05", LEGS), finish(2, 1, 100), finish(2, 2, 100)]
        calls += [amend(cert(4, "B", "2026-07-05", factor=250)), swing(1, 1, 2), swing(2, 1, 2), swing(2, 2, 1)]
        self.assertEqual(ask(*calls)[8:], [[999], [249], [999]])

    def test_refusals(self):
        calls = start(FLEET, LEGS, 3000, 3100, 50) + [race("2026-07-04", LEGS), finish(2, 2, 1)]
        for number in (3,) + BIG:
            self.assertEqual(last(*calls, swing(number, 1, 2)), [-3])
            self.assertEqual(last(*calls, swing(number, 0, 4)), [-3])
        for number in (4,) + BIG:
            self.assertEqual(last(*calls, swing(1, number, 2)), [-2])
            self.assertEqual(last(*calls, swing(1, 1, number)), [-2])
            self.assertEqual(last(*calls, swing(1, 3, number)), [-2])
            self.assertEqual(last(*calls, swing(1, number, 3)), [-2])
        for pair in ((1, 3), (3, 1), (3, 3)):
            self.assertEqual(last(*calls, swing(1, *pair)), [-6])
        for pair in ((1, 2), (2, 1), (1, 1)):
            self.assertEqual(last(*calls, swing(2, *pair)), [-6])
        self.assertEqual(last(*calls, withdraw(2), swing(1, 1, 2)), [-6])
        self.assertEqual(last(*calls, withdraw(1), swing(1, 1, 2)), [-6])


if __name__ == "__main__":
    unittest.main()
