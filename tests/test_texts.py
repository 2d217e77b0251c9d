"""Lines, words, numbers, names, and which line of a text is wrong."""

import unittest

from boathandicaps.texts import is_name, read_number
from tests.helper import amend, as_bytes, ask, cert, last, lines, load, printed, text_of

ONE_ROW = ("wind 5 900 800 700",)


class Lines(unittest.TestCase):
    def test_an_empty_text_is_right(self):
        self.assertEqual(last(load("")), [0, 0])

    def test_lines_that_stand_for_nothing(self):
        for text in ("\n", "\n\n\n", "   ", "#", "# boat A", "  #boat A\n", "#\n\n #x y z\n"):
            with self.subTest(text=text):
                self.assertEqual(last(load(text)), [0, 0])

    def test_the_last_line_needs_no_end(self):
        self.assertEqual(last(load("boat A\nboat B")), [2, 0])
        self.assertEqual(last(load("boat A\nboat B\n")), [2, 0])

    def test_all_lines_are_counted(self):
        self.assertEqual(last(load("x")), [-1001])
        self.assertEqual(last(load("\nx\n")), [-1002])
        self.assertEqual(last(load("\n# no\n   \nboat A\nx")), [-1005])

    def test_the_first_wrong_line_is_told(self):
        self.assertEqual(last(load("boat A\nx\nboat A\ny\n")), [-1002])

    def test_a_whole_that_is_wrong_is_told_behind_the_last_line(self):
        text = "boat A\n" + cert(1, "A", rows=ONE_ROW)
        self.assertEqual(last(load(text)), [-1004])
        self.assertEqual(last(load(text[:-1])), [-1004])
        self.assertEqual(last(load(text + "\n")), [-1005])
        self.assertEqual(last(load(text + "# end")), [-1005])
        self.assertEqual(last(load("boat A\n" + cert(1, "A", rows=()))), [-1003])

    def test_a_line_is_told_before_the_whole(self):
        text = "boat A\n" + cert(1, "A", rows=ONE_ROW) + "\nx\n"
        self.assertEqual(last(load(text)), [-1005])

    def test_bytes_that_make_a_line_wrong(self):
        for code in (0, 9, 11, 13, 31, 127, 128, 255):
            with self.subTest(code=code):
                self.assertEqual(last(load([35, code])), [-1001])
                self.assertEqual(last(load([10, code])), [-1002])
                self.assertEqual(last(load(as_bytes("boat A") + [code])), [-1001])

    def test_bytes_that_may_stand_in_a_line(self):
        self.assertEqual(last(load([35] + list(range(32, 127)))), [0, 0])

    def test_a_text_of_4000_bytes_and_of_4001(self):
        boat = "boat A\n"
        for call in (load, amend):
            self.assertEqual(last(call(boat + "#" * 3993)), [1, 0])
            self.assertEqual(last(call(boat + "#" * 3994)), [-8])
            self.assertEqual(last(call(boat + "\n" * 3993)), [1, 0])
            self.assertEqual(last(call("x" * 4000)), [-1001])
            self.assertEqual(last(call("\n" * 3999 + "x")), [-5000])
            self.assertEqual(last(call("x" * 4001)), [-8])
            self.assertEqual(last(call("x" * 5000)), [-8])


class Words(unittest.TestCase):
    def test_one_blank_or_more_stand_between_words(self):
        self.assertEqual(text_of(last(load("  boat    A  \n boat B"), printed())), "boat A\nboat B\n")

    def test_first_words_that_are_none_of_the_three(self):
        for text in ("Boat A", "BOAT A", "boats A", "boa A", "boatA", "certs", "winds", "A", "-", "0", "x #"):
            with self.subTest(text=text):
                self.assertEqual(last(load(text)), [-1001])

    def test_a_remark_is_a_whole_line(self):
        self.assertEqual(last(load("boat A #")), [-1001])
        self.assertEqual(last(load("boat #A")), [-1001])

    def test_too_few_or_too_many_words(self):
        head = lines("boat A", "boat B", "cert 1 A 2026-01-01 2026-12-31 1000 0", "wind 5 900 800 700")
        tail = "wind 10 600 500 400\n"
        self.assertEqual(last(load(head + tail)), [2, 1])
        self.assertEqual(last(load("boat")), [-1001])
        self.assertEqual(last(load("boat A B")), [-1001])
        for text in ("wind", "wind 10 600 500", "wind 10 600 500 400 300"):
            self.assertEqual(last(load(head + text)), [-1005])
        for text in ("cert", "cert 2 B 2026-01-01 2026-12-31 1000", "cert 2 B 2026-01-01 2026-12-31 1000 0 0"):
            self.assertEqual(last(load(head + tail + text)), [-1006])


class Numbers(unittest.TestCase):
    def test_numbers(self):
        for text, value in (("0", 0), ("7", 7), ("10", 10), ("1234567", 1234567), ("9999999", 9999999)):
            self.assertEqual(read_number(as_bytes(text), 0, 10 ** 9), value)

    def test_what_is_no_number(self):
        for text in ("", "00", "01", "007", "0000001", "12345678", "10000000", "+1", "-1", "1.0", "1a", "a", "/", ":"):
            with self.subTest(text=text):
                self.assertIsNone(read_number(as_bytes(text), 0, 10 ** 9))

    def test_bounds(self):
        self.assertEqual([read_number(as_bytes(str(n)), 3, 5) for n in range(2, 7)], [None, 3, 4, 5, None])

    def test_numbers_in_lines(self):
        for number in ("01", "+1", "-1", "1.", "1e1", "x", "0000001", "00000001", "10000001"):
            with self.subTest(number=number):
                self.assertEqual(last(load("boat A\n" + cert(number, "A"))), [-1002])
                self.assertEqual(last(load("boat A\n" + cert(1, "A", factor=number))), [-1002])
                self.assertEqual(last(load("boat A\n" + cert(1, "A", allowance=number))), [-1002])
                for place in range(4):
                    words = ["4", "900", "900", "900"]
                    words[place] = number
                    text = "boat A\n" + cert(1, "A", rows=("wind " + " ".join(words),))
                    self.assertEqual(last(load(text)), [-1003])


class Names(unittest.TestCase):
    def test_names(self):
        for name in ("A", "Z", "a", "z", "0", "9", "-", "Sea-Wind-2", "abcdefghijkl"):
            with self.subTest(name=name):
                self.assertTrue(is_name(as_bytes(name)))
                self.assertEqual(text_of(last(load("boat " + name), printed())), "boat " + name + "\n")

    def test_what_is_no_name(self):
        self.assertFalse(is_name([]))
        for name in ("abcdefghijklm", "a_b", "a.b", "@", "[", "`", "{", "/", ":", ",", "a#"):
            with self.subTest(name=name):
                self.assertEqual(last(load("boat " + name)), [-1001])

    def test_names_are_unlike_by_their_bytes(self):
        self.assertEqual(last(load("boat Ant\nboat ant\nboat An")), [3, 0])
        self.assertEqual(last(load("boat Ant\nboat Bee\nboat Ant")), [-1003])

    def test_a_name_may_be_a_word_of_the_text(self):
        self.assertEqual(ask(load("boat boat\nboat cert\nboat wind\n" + cert(1, "cert"))), [[3, 1]])


if __name__ == "__main__":
    unittest.main()
