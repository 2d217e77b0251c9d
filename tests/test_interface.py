"""What is handed in and given back, and that nothing is kept from one time to the next."""

import inspect
import unittest

from boathandicaps.certificates import answers
from tests.helper import (
    amend, ask, cert, corrected, counting, course, date_of, day_of, finish, legs_of, lines, load, margin, order, page,
    printed, race, swing, wind, withdraw,
)

FLEET = lines("boat A", "boat B") + cert(1, "A") + cert(2, "B", allowance=15)


def joined(*calls):
    return [number for call in calls for number in call]


class Watched(list):
    """A list that doesn't let itself be changed, not for a while either."""

    def refuse(self, *given, **named):
        raise AssertionError("what is handed in is changed")

    append = extend = insert = pop = remove = clear = sort = reverse = refuse
    __setitem__ = __delitem__ = __iadd__ = __imul__ = refuse


TELLING = [
    printed(), counting(1, 1), corrected(0, 1, 1), corrected(1, 1, 2), order(0, 1), order(1, 1), order(2, 1),
    wind(1, 1), wind(1, 2), course(1, 1, 70), margin(0, 1, 1, 2), margin(1, 1, 2, 1), margin(2, 1, 1, 1),
    swing(1, 1, 2), day_of("2026-07-04"), date_of(46205), page(0, 1), page(1, 1), page(2, 1), legs_of(1)]
BEFORE = [load(FLEET), race("2026-07-04", [0, 100, 1, 50]), finish(1, 1, 900), finish(1, 2, 1)]
EVERY_CALL = joined(
    *BEFORE, *TELLING, amend("boat C\n" + cert(3, "C")), withdraw(1), amend("x"), *TELLING, load("boat A"), *TELLING)


class Interface(unittest.TestCase):
    def test_one_parameter(self):
        self.assertEqual(list(inspect.signature(answers).parameters), ["calls"])

    def test_the_form_of_answers(self):
        calls = [0, 7] + list(b"boat A\n") + [1, 3, 9, 4, 10] + list(b"2026-07-04") + [2, 0, 100, 5, 1, 1, 60, 8, 0, 1]
        given = [2, 1, 0, 7] + list(b"boat A\n") + [1, -5, 1, 1, 1, 0, 1, 0]
        self.assertEqual(answers(calls), given)

    def test_the_form_of_every_call(self):
        """Call by call as it stands in the list, without the helper."""
        text = list(b"boat A\ncert 7 A 2026-07-04 2026-07-04 950 0\nwind 5 9 8 7\nwind 10 6 5 4\n")
        calls = [0, len(text)] + text + [4, 10] + list(b"2026-07-04") + [4, 0, 100, 2, 100] + [5, 1, 1, 13]
        given = [2, 1, 1, 1, 1, 1, 0]
        told = (
            ([1], text), ([6, 1, 1], [7]), ([7, 0, 1, 1], [12, 6] + list(b"247/20")), ([8, 0, 1], [1, 1, 1]),
            ([9, 1, 1], [4] + list(b"15/2") + [3] + list(b"1/1")), ([10, 1, 1, 70], [6] + list(b"1360/1")),
            ([11, 2, 1, 1, 1], [12]), ([12, 1, 1, 1], [949]), ([13, 10] + list(b"1900-01-03"), [2]),
            ([14, 3], list(b"1900-01-04")), ([15, 2, 1], list(b"race 2026-07-04 200\n1 A 13 7 15/2\n")),
            ([16, 1], [46205, 200, 0, 100, 2, 100]), ([2, 6] + list(b"boat B"), [2, 1]), ([3, 7], [0]),
            ([9, 1, 1], [-6]), ([13, 0], [-7]), ([14, -1], [-10]), ([16, 2], [-3]),
        )
        for call, answer in told:
            calls += call
            given += [len(answer)] + answer
        self.assertEqual(answers(calls), given)

    def test_calls_that_tell_change_nothing(self):
        once = ask(*BEFORE, *TELLING)[len(BEFORE):]
        self.assertEqual(ask(*BEFORE, *TELLING, *TELLING, *TELLING[::-1]), ask(*BEFORE) + once * 2 + once[::-1])
        refused = [wind(2, 1), course(1, 1, -1), margin(3, 1, 1, 1), swing(1, 1, 3), day_of("x"), date_of(-1),
                   page(0, 2), legs_of(0)]
        told = ask(*BEFORE, *refused, *TELLING)[len(BEFORE):]
        self.assertEqual(told, [[-3], [-10], [-10], [-2], [-7], [-10], [-3], [-3]] + once)

    def test_a_call_that_answers_nothing(self):
        self.assertEqual(answers([1]), [0])
        self.assertEqual(answers([1, 1, 3, 5]), [0, 0, 1, -5])

    def test_below_0_alone_or_with_a_text(self):
        start = joined(load(FLEET), race("2026-07-04", [0, 100]), finish(1, 2, 1))
        calls = joined(corrected(1, 1, 2), corrected(1, 1, 1))
        self.assertEqual(answers(start + calls)[-9:], [6, 0, 4] + list(b"-1/2") + [1, -6])
        calls = joined(amend(cert(3, "B", "2026-02-01", allowance=35)), corrected(1, 1, 2))
        self.assertEqual(answers(start + calls)[-7:], [6, -2, 4] + list(b"-5/2"))

    def test_empty_rows(self):
        self.assertEqual(answers([0, 0, 4, 0, 0, 2, 0, 4, 0, 2, 0, 1]), [2, 0, 0, 1, -7, 2, 0, 0, 1, -7])

    def test_whole_numbers_in_one_list(self):
        given = answers(EVERY_CALL)
        self.assertIs(type(given), list)
        self.assertEqual({type(number) for number in given}, {int})

    def test_what_is_handed_in_is_not_changed(self):
        calls = Watched(EVERY_CALL)
        answers(calls)
        self.assertEqual(list(calls), EVERY_CALL)

    def test_nothing_is_kept(self):
        first = answers(EVERY_CALL)
        self.assertEqual(answers([1, 6, 1, 1, 8, 0, 1, 9, 1, 1, 11, 0, 1, 1, 1, 15, 0, 1, 16, 1]),
                         [0, 1, -2] + [1, -3] * 5)
        self.assertEqual(answers(EVERY_CALL), first)

    def test_what_is_given_back_is_new(self):
        first = answers(EVERY_CALL)
        copy = list(first)
        first.clear()
        self.assertEqual(answers(EVERY_CALL), copy)

    def test_a_hundred_calls(self):
        calls = [load(FLEET), race("2026-07-04", [0, 100])] + [finish(1, 1, number) for number in range(98)]
        self.assertEqual(ask(*calls)[3:], [[number] for number in range(97)])

    def test_the_longest_lists(self):
        calls = [amend("\n" * 4000)] * 4 + [race("0" * 500, [0, 1] * 20)]
        self.assertEqual(ask(*calls), [[0, 0]] * 4 + [[-7]])
        self.assertEqual(ask(*[load("\n" * 5000)] * 3), [[-8]] * 3)

    def test_many_long_answers(self):
        rows = [f"wind {wind} 9999 9999 9999" for wind in range(90, 98)]
        halves = ["".join(cert(number, "A", rows=rows) for number in some) for some in (range(1, 13), range(13, 25))]
        calls = [load("boat A\n" + halves[0]), amend(halves[1])] + [printed()] * 98
        given = ask(*calls)
        self.assertEqual(given[2], list(("boat A\n" + halves[0] + halves[1]).encode("ascii")))
        self.assertEqual(given[3:], [given[2]] * 97)


if __name__ == "__main__":
    unittest.main()
