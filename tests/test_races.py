"""Races, finishing, corrected times and the order by all three ways."""

import unittest

from tests.helper import (
    amend, ask, cert, corrected, counting, finish, last, lines, load, order, race, start, time_and_fraction, withdraw,
)

DAY = "2026-07-04"
FLEET = lines("boat Ant", "boat Bee") + cert(1, "Ant") + cert(2, "Bee", factor=950, allowance=600)
BIG = (0, -1, 7, 10 ** 18, -10 ** 18)


def one_boat(legs, seconds, factor=1000, allowance=0):
    return start("boat A\n" + cert(1, "A", factor=factor, allowance=allowance), legs, seconds)


class Races(unittest.TestCase):
    def test_numbers_from_1_to_6(self):
        calls = [race(DAY, [0, 1])] * 7
        self.assertEqual(ask(*calls), [[1], [2], [3], [4], [5], [6], [-4]])

    def test_legs_that_are_right(self):
        for legs in ([0, 1], [1, 1], [2, 1], [0, 10000], [2, 10000, 0, 1], [1, 5] * 12):
            with self.subTest(legs=legs):
                self.assertEqual(ask(race(DAY, legs)), [[1]])

    def test_legs_that_are_wrong(self):
        wrong = (
            [], [0], [0, 1, 2], [1, 5] * 13, [1, 5] * 12 + [1], [1, 5] * 20,
            [3, 1], [-1, 1], [0, 0], [0, -1], [0, 10001], [0, 1, 0, 0], [0, 1, 3, 1],
            [1, 5] * 11 + [3, 5], [1, 5] * 11 + [1, 10001],
            [10 ** 18, 1], [0, 10 ** 18], [0, -10 ** 18],
        )
        for legs in wrong:
            with self.subTest(legs=legs):
                self.assertEqual(ask(race(DAY, legs)), [[-9]])

    def test_which_refusal_is_told(self):
        full = [race(DAY, [0, 1])] * 6
        self.assertEqual(last(race("2026-02-30", [])), [-7])
        self.assertEqual(last(*full, race("2026-02-30", [])), [-7])
        self.assertEqual(last(*full, race("2026-02-30", [0, 1])), [-7])
        self.assertEqual(last(*full, race(DAY, [])), [-9])
        self.assertEqual(last(*full, race(DAY, [0, 1])), [-4])

    def test_a_refusal_changes_nothing(self):
        calls = [race("x", [0, 1]), race(DAY, []), race(DAY, [0, 1]), finish(1, 1, 1), finish(2, 1, 1)]
        self.assertEqual(ask(load(FLEET), *calls)[1:], [[-7], [-9], [1], [0], [-3]])

    def test_after_load_there_is_room_again(self):
        calls = [race(DAY, [0, 1])] * 6 + [load(FLEET), race(DAY, [0, 1])]
        self.assertEqual(last(*calls), [1])


class Finish(unittest.TestCase):
    def test_the_seconds_before(self):
        times = (60, 999999, 1, 0, 5)
        answers = ask(load(FLEET), race(DAY, [0, 100]), *[finish(1, 2, time) for time in times])
        self.assertEqual(answers[2:], [[0], [60], [999999], [1], [0]])

    def test_each_race_and_each_boat_by_itself(self):
        calls = [load(FLEET), race(DAY, [0, 100]), race(DAY, [0, 100])]
        calls += [finish(1, 1, 11), finish(1, 2, 12), finish(2, 1, 21)]
        answers = ask(*calls, finish(1, 1, 0), finish(1, 2, 0), finish(2, 1, 0), finish(2, 2, 0))
        self.assertEqual(answers[3:], [[0], [0], [0], [11], [12], [21], [0]])

    def test_the_race_that_is_named(self):
        calls = [load(FLEET), race(DAY, [0, 100]), finish(1, 1, 11), race(DAY, [0, 100]), race(DAY, [0, 100])]
        answers = ask(*calls, finish(2, 1, 21), finish(1, 1, 0), finish(2, 1, 0), finish(3, 1, 0))
        self.assertEqual(answers[5:], [[0], [11], [21], [0]])

    def test_without_a_certificate(self):
        self.assertEqual(ask(load("boat A"), race(DAY, [0, 1]), finish(1, 1, 5), finish(1, 1, 6))[2:], [[0], [5]])

    def test_refusals(self):
        calls = start(FLEET, [0, 100], 50)
        for number in BIG:
            self.assertEqual(last(*calls, finish(number, 0, -1)), [-3])
            self.assertEqual(last(*calls, finish(number, 1, 5)), [-3])
            self.assertEqual(last(*calls, finish(1, number, -1)), [-2])
            self.assertEqual(last(*calls, finish(1, number, 5)), [-2])
        for seconds in (-1, 1000000, 10 ** 18, -10 ** 18):
            self.assertEqual(ask(*calls, finish(1, 1, seconds), finish(1, 1, 5))[3:], [[-10], [50]])
        self.assertEqual(last(*calls, finish(2, 1, 5)), [-3])
        self.assertEqual(last(*calls, finish(1, 3, 5)), [-2])


class Corrected(unittest.TestCase):
    def check(self, way, calls, seconds, fraction):
        self.assertEqual(time_and_fraction(last(*calls, corrected(way, 1, 1))), (seconds, fraction))

    def test_time_on_time(self):
        self.check(0, one_boat([0, 100], 3600, factor=1000), 3600, "3600/1")
        self.check(0, one_boat([0, 100], 3600, factor=950), 3420, "3420/1")
        self.check(0, one_boat([0, 100], 3601, factor=957), 3446, "3446157/1000")
        self.check(0, one_boat([0, 100], 1, factor=100), 0, "1/10")
        self.check(0, one_boat([0, 100], 999999, factor=9999), 9998990, "9998990001/1000")

    def test_time_on_distance(self):
        self.check(1, one_boat([0, 100, 2, 250], 3600, allowance=600), 3390, "3390/1")
        self.check(1, one_boat([0, 333], 3600, allowance=777), 3341, "3341259/1000")
        self.check(1, one_boat([0, 333], 3600, allowance=0), 3600, "3600/1")
        self.check(1, one_boat([0, 100], 60, allowance=600), 0, "0/1")
        self.check(1, one_boat([0, 100], 59, allowance=600), -1, "-1/1")
        self.check(1, one_boat([2, 10000] * 12, 1, allowance=99999), -11999879, "-11999879/1")
        self.check(1, one_boat([2, 9999], 1, allowance=99999), -999889, "-999889001/1000")

    def test_halves_up(self):
        self.check(0, one_boat([0, 100], 1, factor=499), 0, "499/1000")
        self.check(0, one_boat([0, 100], 1, factor=500), 1, "1/2")
        self.check(0, one_boat([0, 100], 5, factor=500), 3, "5/2")
        self.check(0, one_boat([0, 100], 61, factor=500), 31, "61/2")
        self.check(0, one_boat([0, 100], 61, factor=499), 30, "30439/1000")

    def test_halves_up_below_0(self):
        self.check(1, one_boat([0, 100], 1, allowance=15), 0, "-1/2")
        self.check(1, one_boat([0, 100], 1, allowance=35), -2, "-5/2")
        self.check(1, one_boat([0, 100], 1, allowance=25), -1, "-3/2")
        self.check(1, one_boat([0, 100], 1, allowance=36), -3, "-13/5")
        self.check(1, one_boat([0, 100], 1, allowance=34), -2, "-12/5")

    def test_by_the_certificate_that_counts(self):
        text = "boat A\n" + cert(1, "A", factor=800) + cert(2, "A", "2026-07-05", factor=900)
        calls = [load(text), race(DAY, [0, 1]), race("2026-07-05", [0, 1]), finish(1, 1, 10), finish(2, 1, 10)]
        answers = ask(*calls, corrected(0, 1, 1), corrected(0, 2, 1))
        self.assertEqual([time_and_fraction(answer) for answer in answers[5:]], [(8, "8/1"), (9, "9/1")])

    def test_refusals(self):
        calls = start(FLEET, [0, 100], 50)
        for way in (-1, 2, 3, 10 ** 18, -10 ** 18):
            self.assertEqual(last(*calls, corrected(way, 1, 1)), [-10])
            self.assertEqual(last(*calls, corrected(way, 2, 3)), [-10])
        for way in (0, 1):
            for number in (2,) + BIG:
                self.assertEqual(last(*calls, corrected(way, number, 1)), [-3])
                self.assertEqual(last(*calls, corrected(way, number, 3)), [-3])
            for number in (3,) + BIG:
                self.assertEqual(last(*calls, corrected(way, 1, number)), [-2])
            self.assertEqual(last(*calls, corrected(way, 1, 2)), [-6])
            self.assertEqual(last(*calls, finish(1, 1, 0), corrected(way, 1, 1)), [-6])
            self.assertEqual(last(*calls, withdraw(1), corrected(way, 1, 1)), [-6])


class Order(unittest.TestCase):
    def test_nobody(self):
        for way in (0, 1, 2):
            self.assertEqual(last(race(DAY, [0, 1]), order(way, 1)), [0])
            self.assertEqual(last(load(FLEET), race(DAY, [0, 1]), order(way, 1)), [0])
            self.assertEqual(last(*start("boat A", [0, 1], 5), order(way, 1)), [0])

    def test_only_who_is_told_of(self):
        text = lines("boat A", "boat B", "boat C", "boat D") + cert(1, "A") + cert(2, "B", last_day="2026-07-03")
        text += cert(3, "C") + cert(4, "D")
        for way in (0, 1, 2):
            self.assertEqual(last(*start(text, [0, 100], 0, 700, 800, 700), order(way, 1)), [2, 1, 4, 2, 3])

    def test_by_time_on_time(self):
        text = lines("boat A", "boat B") + cert(1, "A", factor=1000) + cert(2, "B", factor=900)
        self.assertEqual(last(*start(text, [0, 100], 90, 100), order(0, 1)), [2, 1, 1, 1, 2])
        self.assertEqual(last(*start(text, [0, 100], 90, 99), order(0, 1)), [2, 1, 2, 2, 1])
        self.assertEqual(last(*start(text, [0, 100], 90, 101), order(0, 1)), [2, 1, 1, 2, 2])

    def test_by_time_on_distance(self):
        text = lines("boat A", "boat B") + cert(1, "A", allowance=0) + cert(2, "B", allowance=100)
        self.assertEqual(last(*start(text, [0, 150, 2, 50], 90, 110), order(1, 1)), [2, 1, 1, 1, 2])
        self.assertEqual(last(*start(text, [0, 150, 2, 50], 90, 109), order(1, 1)), [2, 1, 2, 2, 1])
        self.assertEqual(last(*start(text, [0, 150, 2, 50], 1, 1), order(1, 1)), [2, 1, 2, 2, 1])

    def test_what_the_nearest_second_hides(self):
        text = lines("boat A", "boat B") + cert(1, "A", factor=1001) + cert(2, "B", factor=1000)
        self.assertEqual(last(*start(text, [0, 100], 90, 90), order(0, 1)), [2, 1, 2, 2, 1])

    def test_equal_places(self):
        names = "ABCDEF"
        text = lines(*["boat " + name for name in names])
        text += "".join(cert(number, name) for number, name in enumerate(names, start=1))
        for way in (0, 1, 2):
            answer = last(*start(text, [0, 100], 700, 650, 700, 640, 650, 700), order(way, 1))
            self.assertEqual(answer, [6, 1, 4, 2, 2, 2, 5, 4, 1, 4, 3, 4, 6])

    def test_twelve_boats(self):
        text = lines(*[f"boat b{number}" for number in range(1, 13)])
        text += "".join(cert(number, f"b{number}") for number in range(1, 13))
        for way in (0, 1, 2):
            answer = last(*start(text, [0, 100], *range(800, 680, -10)), order(way, 1))
            self.assertEqual(answer[0], 12)
            self.assertEqual(answer[1::2], list(range(1, 13)))
            self.assertEqual(answer[2::2], list(range(12, 0, -1)))

    def test_each_race_by_itself(self):
        calls = [load(FLEET), race(DAY, [0, 100]), race(DAY, [0, 100]), race("2025-07-04", [0, 100])]
        calls += [finish(1, 1, 50), finish(1, 2, 990), finish(2, 1, 990), finish(2, 2, 50), finish(3, 1, 50)]
        for way in (0, 1, 2):
            answers = ask(*calls, order(way, 1), order(way, 2), order(way, 3))
            self.assertEqual(answers[9:], [[2, 1, 1, 2, 2], [2, 1, 2, 2, 1], [0]])
        answers = ask(*calls, corrected(0, 1, 1), corrected(0, 2, 1), corrected(0, 3, 1))
        self.assertEqual([answer[0] for answer in answers[9:]], [50, 990, -6])

    def test_a_boat_that_comes_later(self):
        calls = start(FLEET, [0, 100], 700, 700)
        calls += [amend("boat Cat\n" + cert(3, "Cat")), order(0, 1), finish(1, 3, 1), order(0, 1)]
        answers = ask(*calls)
        self.assertEqual([answers[5], answers[7]], [[2, 1, 2, 2, 1], [3, 1, 3, 2, 2, 3, 1]])

    def test_refusals(self):
        calls = start(FLEET, [0, 100], 50)
        for way in (-1, 3, 10 ** 18, -10 ** 18):
            self.assertEqual(last(*calls, order(way, 1)), [-10])
            self.assertEqual(last(*calls, order(way, 2)), [-10])
        for way in (0, 1, 2):
            for number in (2,) + BIG:
                self.assertEqual(last(*calls, order(way, number)), [-3])


class OrderByWind(unittest.TestCase):
    """Boat B is the gauge: where her time stands in her rows is plain."""

    # 4 miles; with the rows of cert() the course takes 3200 s in 5 knots and 2000 s in 10.
    LEGS = [0, 100, 1, 200, 2, 100]

    def place_of_a(self, seconds, gauge_rows, gauge_seconds, rows=("wind 5 900 800 700", "wind 10 600 500 400")):
        """1 if A is ahead of the gauge, 0 if they are level, -1 if behind."""
        text = lines("boat A", "boat B") + cert(1, "A", rows=rows) + cert(2, "B", rows=gauge_rows)
        answer = last(*start(text, self.LEGS, seconds, gauge_seconds), order(2, 1))
        return {(1, 1, 1, 2): 0, (1, 1, 2, 2): 1, (1, 2, 2, 1): -1}[tuple(answer[1:])]

    def gauge(self, wind, over=0):
        """Rows in which 400 seconds and more stand for the wind, with this ratio over 1 (in 400ths)."""
        return (f"wind {wind} 100 100 100", "wind 99 1 1 1"), 400 + over

    def test_between_two_rows(self):
        for seconds, level in ((2719, 1), (2720, 0), (2721, -1)):
            self.assertEqual(self.place_of_a(seconds, *self.gauge(7)), level)

    def test_a_wind_that_is_no_whole_number(self):
        # The gauge takes 800 s in 5 knots, 500 s in 6: her 700 s stand for 5 1/3 knots, as A's 3200 - 1200/15 do.
        gauge_rows = ("wind 5 200 200 200", "wind 6 125 125 125")
        for seconds, level in ((3119, 1), (3120, 0), (3121, -1)):
            self.assertEqual(self.place_of_a(seconds, gauge_rows, 700), level)

    def test_in_the_first_rows_wind(self):
        self.assertEqual(self.place_of_a(3199, *self.gauge(5)), 1)
        self.assertEqual(self.place_of_a(3200, *self.gauge(5)), 0)
        self.assertEqual(self.place_of_a(3201, *self.gauge(5)), -1)
        self.assertEqual(self.place_of_a(3200, *self.gauge(5, 100)), 1)
        for seconds, level in ((3999, 1), (4000, 0), (4001, -1)):
            self.assertEqual(self.place_of_a(seconds, *self.gauge(5, 100)), level)

    def test_more_wind_is_ahead_whatever_the_ratio(self):
        self.assertEqual(self.place_of_a(999999, *self.gauge(4)), 1)
        self.assertEqual(self.place_of_a(3200, *self.gauge(6, 999)), -1)
        self.assertEqual(self.place_of_a(1, *self.gauge(11, 999)), -1)

    def test_in_the_last_rows_wind(self):
        self.assertEqual(self.place_of_a(2000, *self.gauge(10)), 0)
        self.assertEqual(self.place_of_a(2001, *self.gauge(10)), -1)
        self.assertEqual(self.place_of_a(1999, *self.gauge(10)), 1)
        self.assertEqual(self.place_of_a(2000, *self.gauge(10, 1)), 1)
        gauge_rows = ("wind 9 200 200 200", "wind 10 100 100 100")
        for seconds, level in ((1499, 1), (1500, 0), (1501, -1)):
            self.assertEqual(self.place_of_a(seconds, gauge_rows, 300), level)

    def test_the_least_wind_where_rows_are_alike(self):
        rows = ("wind 5 900 900 900", "wind 10 600 600 600", "wind 15 600 600 600", "wind 20 300 300 300")
        self.assertEqual(self.place_of_a(2400, *self.gauge(10), rows), 0)
        self.assertEqual(self.place_of_a(2400, *self.gauge(11), rows), -1)
        self.assertEqual(self.place_of_a(2399, *self.gauge(15), rows), 1)
        self.assertEqual(self.place_of_a(2160, *self.gauge(16), rows), 0)

    def test_the_last_rows_alike(self):
        rows = ("wind 5 900 900 900", "wind 10 600 600 600", "wind 15 600 600 600")
        self.assertEqual(self.place_of_a(2400, *self.gauge(10), rows), 0)
        gauge_rows = ("wind 14 200 200 200", "wind 15 100 100 100")
        self.assertEqual(self.place_of_a(1800, gauge_rows, 300, rows), 0)

    def test_all_rows_alike(self):
        rows = ("wind 5 900 900 900", "wind 10 900 900 900")
        self.assertEqual(self.place_of_a(3600, *self.gauge(5), rows), 0)
        self.assertEqual(self.place_of_a(3601, *self.gauge(5), rows), -1)
        gauge_rows = ("wind 9 200 200 200", "wind 10 100 100 100")
        self.assertEqual(self.place_of_a(2700, gauge_rows, 300, rows), 0)

    def test_each_kind_of_leg_by_its_own_seconds(self):
        rows = ("wind 5 500 300 200", "wind 10 50 30 20")
        for kind, seconds in ((0, 500), (1, 300), (2, 200)):
            text = lines("boat A", "boat B") + cert(1, "A", rows=rows) + cert(2, "B", rows=self.gauge(5)[0])
            for late, answer in ((0, [2, 1, 1, 1, 2]), (1, [2, 1, 2, 2, 1]), (-1, [2, 1, 1, 2, 2])):
                self.assertEqual(last(*start(text, [kind, 100], seconds + late, 100), order(2, 1)), answer)

    def test_by_the_certificate_that_counts(self):
        text = lines("boat A", "boat B") + cert(1, "A", rows=self.gauge(5)[0]) + cert(2, "B", rows=self.gauge(6)[0])
        calls = start(text, self.LEGS, 400, 400)
        calls += [order(2, 1), amend(cert(3, "A", rows=self.gauge(7)[0])), order(2, 1)]
        answers = ask(*calls, counting(1, 1), withdraw(3), order(2, 1))
        self.assertEqual([answers[4], answers[6]], [[2, 1, 2, 2, 1], [2, 1, 1, 2, 2]])
        self.assertEqual(answers[7:], [[3], [2], [2, 1, 2, 2, 1]])


if __name__ == "__main__":
    unittest.main()
