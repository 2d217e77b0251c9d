"""The lines of a text of certificates, writing it back, amending, withdrawing, what counts."""

import unittest

from tests.helper import (
    amend, ask, cert, corrected, counting, finish, last, lines, load, order, printed, race, text_of, time_and_fraction,
    withdraw,
)

TWO_ROWS = ("wind 5 900 800 700", "wind 10 600 500 400")
FLEET = lines("boat Ant", "boat Bee") + cert(1, "Ant") + cert(2, "Bee", factor=950, allowance=600)


def boats(count):
    return lines(*[f"boat b{number}" for number in range(1, count + 1)])


def certs(first, count, boat="A"):
    """Certificates short enough that 24 of them stand in one text."""
    return "".join(
        cert(number, boat, rows=("wind 1 9 9 9", "wind 2 8 8 8")) for number in range(first, first + count))


def rows(count):
    return [f"wind {number} {100 - number} {100 - number} {100 - number}" for number in range(1, count + 1)]


class BoatLines(unittest.TestCase):
    def test_how_many(self):
        for count in (0, 1, 2, 12):
            self.assertEqual(last(load(boats(count))), [count, 0])
        self.assertEqual(last(load(boats(13))), [-1013])

    def test_a_boat_between_certificates(self):
        text = "boat A\n" + cert(1, "A") + "boat B\n" + cert(2, "B") + cert(3, "A")
        self.assertEqual(last(load(text)), [2, 3])


class CertLines(unittest.TestCase):
    def test_how_many(self):
        for count in (0, 1, 24):
            self.assertEqual(last(load("boat A\n" + certs(1, count))), [1, count])
        self.assertEqual(last(load("boat A\n" + certs(1, 25))), [-1000 - (1 + 3 * 24 + 1)])

    def test_bounds(self):
        right = {"no": (1, 999999), "factor": (100, 9999), "allowance": (0, 99999)}
        wrong = {"no": (0, 1000000), "factor": (99, 10000), "allowance": (100000, 1000000)}
        for key in right:
            for value in right[key]:
                with self.subTest(key=key, value=value):
                    self.assertEqual(last(load("boat A\n" + cert(**{"no": 5, "boat": "A", key: value}))), [1, 1])
            for value in wrong[key]:
                with self.subTest(key=key, value=value):
                    self.assertEqual(last(load("boat A\n" + cert(**{"no": 5, "boat": "A", key: value}))), [-1002])

    def test_the_last_day_is_not_before_the_first(self):
        self.assertEqual(last(load("boat A\n" + cert(1, "A", "2026-03-01", "2026-03-01"))), [1, 1])
        self.assertEqual(last(load("boat A\n" + cert(1, "A", "2026-03-01", "2026-02-28"))), [-1002])
        self.assertEqual(last(load("boat A\n" + cert(1, "A", "2026-01-02", "2025-12-31"))), [-1002])

    def test_numbers_are_unlike(self):
        self.assertEqual(last(load("boat A\nboat B\n" + cert(7, "A") + cert(7, "B"))), [-1006])

    def test_the_boat_is_told_before(self):
        self.assertEqual(last(load("boat A\n" + cert(1, "B"))), [-1002])
        self.assertEqual(last(load(cert(1, "A") + "boat A\n")), [-1001])
        self.assertEqual(last(load("boat A\n" + cert(1, "a"))), [-1002])

    def test_fewer_than_two_rows(self):
        for some in ((), TWO_ROWS[:1]):
            wrong = -1000 - (3 + len(some))
            head = "boat A\n" + cert(1, "A", rows=some)
            with self.subTest(rows=some):
                self.assertEqual(last(load(head + "boat B\n")), [wrong])
                self.assertEqual(last(load(head + cert(2, "A"))), [wrong])
                self.assertEqual(last(load(head)), [wrong])
                self.assertEqual(last(load(head + "#\n\nboat B\n")), [wrong - 2])
        self.assertEqual(last(load("boat A\n" + cert(1, "A") + "boat B\n")), [2, 1])


class WindLines(unittest.TestCase):
    def test_how_many(self):
        for count in (2, 3, 8):
            self.assertEqual(last(load("boat A\n" + cert(1, "A", rows=rows(count)))), [1, 1])
        self.assertEqual(last(load("boat A\n" + cert(1, "A", rows=rows(9)))), [-1011])

    def test_bounds(self):
        self.assertEqual(last(load("boat A\n" + cert(1, "A", rows=("wind 1 9999 9999 9999", "wind 99 1 1 1")))), [1, 1])
        wrong = (
            "wind 0 1 1 1", "wind 100 1 1 1", "wind 5 0 1 1", "wind 5 1 0 1", "wind 5 1 1 0",
            "wind 5 10000 1 1", "wind 5 1 10000 1", "wind 5 1 1 10000",
        )
        for row in wrong:
            with self.subTest(row=row):
                self.assertEqual(last(load("boat A\n" + cert(1, "A", rows=(row,)))), [-1003])

    def test_each_wind_is_greater(self):
        for wind in (4, 5):
            some = ("wind 5 9 9 9", f"wind {wind} 8 8 8")
            self.assertEqual(last(load("boat A\n" + cert(1, "A", rows=some))), [-1004])
        self.assertEqual(last(load("boat A\n" + cert(1, "A", rows=("wind 5 9 9 9", "wind 6 8 8 8")))), [1, 1])

    def test_none_of_the_three_is_greater(self):
        for row in ("wind 6 10 9 9", "wind 6 9 10 9", "wind 6 9 9 10", "wind 6 1 1 10"):
            with self.subTest(row=row):
                self.assertEqual(last(load("boat A\n" + cert(1, "A", rows=("wind 5 9 9 9", row)))), [-1004])
        self.assertEqual(last(load("boat A\n" + cert(1, "A", rows=("wind 5 9 9 9", "wind 6 9 9 9")))), [1, 1])

    def test_rows_are_held_against_the_row_before_alone(self):
        some = ("wind 5 9 9 9", "wind 6 7 7 7", "wind 7 8 7 7")
        self.assertEqual(last(load("boat A\n" + cert(1, "A", rows=some))), [-1005])

    def test_a_new_certificate_begins_anew(self):
        slower = ("wind 1 999 999 999", "wind 2 900 900 900")
        self.assertEqual(last(load("boat A\n" + cert(1, "A") + cert(2, "A", rows=slower))), [1, 2])

    def test_a_wind_needs_a_certificate_before_it(self):
        self.assertEqual(last(load("wind 5 9 9 9")), [-1001])
        self.assertEqual(last(load("boat A\nwind 5 9 9 9")), [-1002])
        self.assertEqual(last(load("boat A\n" + cert(1, "A") + "boat B\nwind 15 9 9 9")), [-1006])
        self.assertEqual(last(load("boat A\n" + cert(1, "A") + "# boat B\nwind 15 9 9 9")), [1, 1])


class WrittenBack(unittest.TestCase):
    def test_nothing(self):
        self.assertEqual(ask(printed(), load("# no boats"), printed()), [[], [0, 0], []])

    def test_boats_then_certificates_with_one_blank(self):
        text = " boat  A\n#\n" + cert(9, "A").replace(" ", "   ") + "\nboat B\n" + cert(3, "B") + cert(5, "A")
        written = lines("boat A", "boat B") + cert(9, "A") + cert(3, "B") + cert(5, "A")
        self.assertEqual(text_of(last(load(text), printed())), written)
        self.assertEqual(text_of(last(load(written), printed())), written)

    def test_every_field(self):
        some = ("wind 1 9999 9998 9997", "wind 99 3 2 1")
        text = "boat A-z09\n" + cert(999999, "A-z09", "1900-01-01", "2199-12-31", 9999, 99999, some)
        self.assertEqual(text_of(last(load(text), printed())), text)

    def test_it_may_be_longer_than_a_text_to_load(self):
        full = boats(12) + certs(1, 24, "b12")
        self.assertLess(len(full), 4000)
        self.assertEqual(text_of(last(load(full), printed())), full)
        half = "".join(cert(number, "A", rows=rows(8)) for number in range(1, 13))
        other = "".join(cert(number, "A", rows=rows(8)) for number in range(13, 25))
        answer = last(load("boat A\n" + half), amend(other), printed())
        self.assertEqual(text_of(answer), "boat A\n" + half + other)
        self.assertGreater(len(answer), 4000)


class Load(unittest.TestCase):
    def test_boats_certificates_and_races_are_replaced(self):
        answers = ask(
            load(FLEET), race("2026-07-04", [0, 100]), finish(1, 1, 60), load("boat Cat\n" + cert(1, "Cat")),
            printed(), counting(1, 1), race("2026-07-04", [0, 100]), finish(1, 1, 70), finish(1, 2, 70))
        self.assertEqual(answers[3], [1, 1])
        self.assertEqual(text_of(answers[4]), "boat Cat\n" + cert(1, "Cat"))
        self.assertEqual(answers[5:], [[-3], [1], [0], [-2]])

    def test_an_empty_text_leaves_nothing(self):
        self.assertEqual(ask(load(FLEET), load(""), printed(), withdraw(1)), [[2, 2], [0, 0], [], [-5]])

    def test_an_empty_text_leaves_no_races(self):
        calls = [load(FLEET), race("2026-07-04", [0, 100]), load(""), order(0, 1), race("2026-07-04", [0, 100])]
        self.assertEqual(ask(*calls)[2:], [[0, 0], [-3], [1]])

    def test_a_refusal_changes_nothing(self):
        for text, refusal in (("boat Cat\nx", -1002), ("boat A\n" + cert(1, "A", rows=()), -1003), ("#" * 4001, -8)):
            answers = ask(
                load(FLEET), race("2026-07-04", [0, 100]), finish(1, 1, 60), load(text), printed(), finish(1, 1, 61))
            with self.subTest(refusal=refusal):
                self.assertEqual(answers[3], [refusal])
                self.assertEqual(text_of(answers[4]), FLEET)
                self.assertEqual(answers[5], [60])


class Amend(unittest.TestCase):
    def test_behind_what_is_there(self):
        more = "boat Cat\n" + cert(3, "Cat") + cert(4, "Ant")
        answers = ask(load(FLEET), amend(more), printed())
        self.assertEqual(answers[1], [3, 4])
        written = lines("boat Ant", "boat Bee", "boat Cat") + FLEET[len("boat Ant\nboat Bee\n"):]
        self.assertEqual(text_of(answers[2]), written + cert(3, "Cat") + cert(4, "Ant"))

    def test_at_the_beginning_and_with_nothing(self):
        self.assertEqual(ask(amend(FLEET), amend(""), amend("#")), [[2, 2], [2, 2], [2, 2]])
        self.assertEqual(ask(amend("")), [[0, 0]])

    def test_races_and_times_stay(self):
        answers = ask(
            load(FLEET), race("2026-07-04", [0, 100]), finish(1, 1, 60), amend("boat Cat\n" + cert(3, "Cat")),
            finish(1, 1, 61), finish(1, 3, 62), order(0, 1))
        self.assertEqual(answers[3:], [[3, 3], [60], [0], [2, 1, 1, 2, 3]])

    def test_a_new_certificate_counts(self):
        answers = ask(
            load(FLEET), race("2026-07-04", [0, 100]), finish(1, 1, 60), counting(1, 1),
            amend(cert(9, "Ant", "2026-02-01", factor=500)), counting(1, 1), corrected(0, 1, 1))
        self.assertEqual(answers[3:6], [[1], [2, 3], [9]])
        self.assertEqual(time_and_fraction(answers[6]), (30, "30/1"))

    def test_wrong_by_what_is_there(self):
        for text, line in (("boat Ant", 1), ("\n" + cert(2, "Ant"), 2), (cert(3, "Cat"), 1)):
            self.assertEqual(last(load(FLEET), amend(text)), [-1000 - line])

    def test_a_wind_belongs_to_a_certificate_of_its_own_text(self):
        self.assertEqual(last(load(FLEET), amend("wind 20 1 1 1")), [-1001])
        self.assertEqual(last(load(FLEET), amend("boat Cat\nwind 20 1 1 1")), [-1002])
        text = text_of(last(load(FLEET), amend(cert(3, "Bee") + "wind 20 1 1 1\n"), printed()))
        self.assertEqual(text, FLEET + cert(3, "Bee") + "wind 20 1 1 1\n")

    def test_room_for_boats_and_certificates(self):
        self.assertEqual(ask(load(boats(11)), amend("boat x"), amend("boat y"))[1:], [[12, 0], [-1001]])
        answers = ask(load("boat A\n" + certs(1, 23)), amend(certs(24, 2)), amend(certs(24, 1)), amend(certs(25, 1)))
        self.assertEqual(answers, [[1, 23], [-1004], [1, 24], [-1001]])

    def test_a_refusal_changes_nothing(self):
        wrong = (
            ("boat Cat\n" + cert(3, "Cat") + "x", -1005),
            ("boat Cat\n" + cert(3, "Cat", rows=TWO_ROWS[:1]), -1004),
            ("boat Cat\n" + cert(3, "Cat") + "#" * 4000, -8),
        )
        for text, refusal in wrong:
            answers = ask(
                load(FLEET), race("2026-07-04", [0, 100]), finish(1, 1, 60), amend(text), printed(), finish(1, 3, 1),
                finish(1, 1, 0), withdraw(3), amend("boat Cat\n" + cert(3, "Cat")))
            with self.subTest(refusal=refusal):
                self.assertEqual(answers[3], [refusal])
                self.assertEqual(text_of(answers[4]), FLEET)
                self.assertEqual(answers[5:], [[-2], [60], [-5], [3, 3]])


class Withdraw(unittest.TestCase):
    def test_what_is_left(self):
        answers = ask(load(FLEET), withdraw(1), printed(), withdraw(2), printed())
        self.assertEqual([answers[1], answers[3]], [[1], [0]])
        self.assertEqual(text_of(answers[2]), "boat Ant\nboat Bee\n" + cert(2, "Bee", factor=950, allowance=600))
        self.assertEqual(text_of(answers[4]), "boat Ant\nboat Bee\n")

    def test_no_such_certificate(self):
        for number in (0, 3, -1, 10 ** 18, -10 ** 18):
            answers = ask(load(FLEET), withdraw(number), printed())
            self.assertEqual(answers[1], [-5])
            self.assertEqual(text_of(answers[2]), FLEET)
        self.assertEqual(ask(withdraw(1)), [[-5]])
        self.assertEqual(ask(load(FLEET), withdraw(2), withdraw(2))[1:], [[1], [-5]])

    def test_the_number_and_the_room_are_free_again(self):
        self.assertEqual(ask(load(FLEET), withdraw(1), amend(cert(1, "Bee")))[1:], [[1], [2, 2]])
        full = ask(load("boat A\n" + certs(1, 24)), withdraw(7), amend(certs(25, 1)), amend(certs(26, 1)))
        self.assertEqual(full[1:], [[23], [1, 24], [-1001]])

    def test_of_the_certificate_that_counts(self):
        text = "boat A\n" + cert(1, "A", factor=1000) + cert(2, "A", factor=500)
        answers = ask(
            load(text), race("2026-07-04", [0, 100]), finish(1, 1, 100), counting(1, 1), corrected(0, 1, 1),
            withdraw(2), counting(1, 1), corrected(0, 1, 1), order(0, 1),
            withdraw(1), counting(1, 1), corrected(0, 1, 1), order(0, 1), finish(1, 1, 100))
        self.assertEqual(time_and_fraction(answers[4]), (50, "50/1"))
        self.assertEqual(time_and_fraction(answers[7]), (100, "100/1"))
        self.assertEqual([answers[3], answers[6], answers[10]], [[2], [1], [0]])
        self.assertEqual([answers[8], answers[11], answers[12], answers[13]], [[1, 1, 1], [-6], [0], [100]])


class Counting(unittest.TestCase):
    def counts(self, day, *texts):
        return last(load("boat A\nboat B\n" + "".join(texts)), race(day, [0, 100]), counting(1, 1))

    def test_the_first_and_the_last_day_hold(self):
        text = cert(5, "A", "2026-03-01", "2026-03-10")
        days = ("2026-02-28", "2026-03-01", "2026-03-05", "2026-03-10", "2026-03-11")
        self.assertEqual([self.counts(day, text) for day in days], [[0], [5], [5], [5], [0]])

    def test_the_latest_first_day(self):
        texts = (cert(1, "A", "2026-02-01", "2026-08-01"), cert(9, "A", "2026-01-01", "2026-12-31"))
        self.assertEqual(self.counts("2026-07-04", *texts), [1])
        self.assertEqual(self.counts("2026-07-04", *reversed(texts)), [1])
        self.assertEqual(self.counts("2026-08-02", *texts), [9])
        self.assertEqual(self.counts("2026-01-31", *texts), [9])

    def test_of_one_first_day_the_greatest_number(self):
        texts = (cert(10, "A"), cert(9, "A", last_day="2026-07-04"), cert(2, "A"))
        self.assertEqual(self.counts("2026-07-04", *texts), [10])
        self.assertEqual(self.counts("2026-07-04", *reversed(texts)), [10])

    def test_her_own_alone(self):
        texts = (cert(4, "B", "2026-05-01"), cert(1, "A"))
        self.assertEqual(self.counts("2026-07-04", *texts), [1])
        self.assertEqual(self.counts("2026-07-04", texts[0]), [0])
        both = load("boat A\nboat B\n" + "".join(texts))
        self.assertEqual(last(both, race("2026-07-04", [0, 1]), counting(2, 1)), [4])

    def test_on_the_day_of_each_race(self):
        text = "boat A\n" + cert(1, "A", "2026-01-01", "2026-01-31") + cert(2, "A", "2026-02-01", "2026-02-28")
        answers = ask(
            load(text), race("2026-01-31", [0, 1]), race("2026-02-01", [0, 1]), race("2026-03-01", [0, 1]),
            counting(1, 1), counting(1, 2), counting(1, 3))
        self.assertEqual(answers[4:], [[1], [2], [0]])

    def test_refusals(self):
        start = (load(FLEET), race("2026-07-04", [0, 100]))
        for boat in (0, -1, 3, 10 ** 18):
            self.assertEqual(last(*start, counting(boat, 1)), [-2])
            self.assertEqual(last(*start, counting(boat, 2)), [-2])
        for number in (0, -1, 2, -10 ** 18):
            self.assertEqual(last(*start, counting(1, number)), [-3])
        self.assertEqual(ask(counting(1, 1)), [[-2]])


if __name__ == "__main__":
    unittest.main()
