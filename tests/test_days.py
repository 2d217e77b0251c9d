"""Dates, in a race's call and in certificates, the numbers of days, and the calls day and date."""

import calendar
import datetime
import unittest

from boathandicaps.days import day_codes, read_day
from tests.helper import as_bytes, ask, cert, date_of, day_of, last, load, printed, race, text_of

RIGHT = (
    "1900-01-01", "2199-12-31", "2026-07-04", "2026-01-31", "2026-04-30", "2026-02-28",
    "1904-02-29", "2000-02-29", "2024-02-29", "2196-02-29", "2100-02-28",
)
WRONG = (
    "1899-12-31", "2200-01-01", "0000-01-01", "9999-12-31", "2026-00-10", "2026-13-10", "2026-01-00", "2026-01-32",
    "2026-04-31", "2026-06-31", "2026-09-31", "2026-11-31", "2026-02-29", "1900-02-29", "2100-02-29", "2000-02-30",
    "2026-7-4", "2026-07-4", "2026-07-041", "02026-07-04", "2026/07/04", "20260704", "2026-07:04", "2026_07-04",
    "2026-0a-04", "2026-07-0x", "x026-07-04", "2026-07-0/", "2026-07-0:", "-026-07-04", "2026--7-04",
)
LAST_NUMBER = 109572


class Dates(unittest.TestCase):
    def test_dates_of_races(self):
        for date in RIGHT:
            with self.subTest(date=date):
                self.assertEqual(last(race(date, [0, 1])), [1])

    def test_what_is_no_date_of_a_race(self):
        for date in WRONG + ("", " 2026-07-04", "2026-07-04 ", "2026-07-04\n", "2026 07 04", "2026-07-04" * 500):
            with self.subTest(date=date):
                self.assertEqual(last(race(date, [0, 1])), [-7])

    def test_bytes_that_are_no_digits(self):
        for code in (0, 10, 47, 58, 178, 255):
            date = as_bytes("2026-07-04")
            date[3] = code
            self.assertEqual(last(race(date, [0, 1])), [-7])

    def test_dates_of_certificates(self):
        for date in RIGHT:
            with self.subTest(date=date):
                text = "boat A\n" + cert(1, "A", date, date)
                self.assertEqual(last(load(text)), [1, 1])
                self.assertEqual(text_of(last(load(text), printed())), text)

    def test_what_is_no_date_of_a_certificate(self):
        for date in WRONG:
            with self.subTest(date=date):
                self.assertEqual(last(load("boat A\n" + cert(1, "A", date, "2199-12-31"))), [-1002])
                self.assertEqual(last(load("boat A\n" + cert(1, "A", "1900-01-01", date))), [-1002])

    def test_the_end_of_each_month(self):
        for year in (1900, 2026, 2028, 2199):
            for month in range(1, 13):
                length = calendar.monthrange(year, month)[1]
                calls = [race(f"{year}-{month:02}-{day:02}", [0, 1]) for day in (length, length + 1)]
                self.assertEqual(ask(*calls), [[1], [-7]])

    def test_every_day(self):
        day = datetime.date(1900, 1, 1)
        number = 0
        while day.year < 2200:
            date = as_bytes(day.isoformat())
            self.assertEqual(read_day(date), number)
            self.assertEqual(day_codes(number), date)
            day += datetime.timedelta(days=1)
            number += 1
        self.assertEqual(number, LAST_NUMBER + 1)


class DayAndDate(unittest.TestCase):
    def test_the_ends(self):
        for date, number in (("1900-01-01", 0), ("1900-01-02", 1), ("2199-12-30", 109571), ("2199-12-31", 109572)):
            self.assertEqual(last(day_of(date)), [number])

    def test_dates(self):
        for text in RIGHT:
            number = (datetime.date.fromisoformat(text) - datetime.date(1900, 1, 1)).days
            self.assertEqual(last(day_of(text)), [number], text)

    def test_what_is_no_date(self):
        for text in WRONG + ("", " ", " 2026-07-04", "2026-07-04 ", "2026-07-04\n", "\n2026-07-04", "2026-07-04" * 500):
            self.assertEqual(last(day_of(text)), [-7], text)
        for code in (0, 9, 10, 32, 47, 58, 178, 255):
            for place in range(10):
                text = list(b"2026-07-04")
                text[place] = code
                self.assertEqual(last(day_of(text)), [-7], text)

    def test_numbers(self):
        self.assertEqual(last(date_of(0)), list(b"1900-01-01"))
        self.assertEqual(last(date_of(LAST_NUMBER)), list(b"2199-12-31"))
        self.assertEqual([text_of(answer) for answer in ask(date_of(58), date_of(59), date_of(364), date_of(365))],
                         ["1900-02-28", "1900-03-01", "1900-12-31", "1901-01-01"])

    def test_there_and_back(self):
        numbers = list(range(0, LAST_NUMBER, 37)) + list(range(36500, 36900)) + list(range(73000, 73300))
        for at in range(0, len(numbers), 100):
            some = numbers[at:at + 100]
            dates = ask(*[date_of(number) for number in some])
            told = [(datetime.date(1900, 1, 1) + datetime.timedelta(number)).isoformat() for number in some]
            self.assertEqual([text_of(answer) for answer in dates], told)
            self.assertEqual(ask(*[day_of(answer) for answer in dates]), [[number] for number in some])

    def test_numbers_out_of_range(self):
        for number in (-1, LAST_NUMBER + 1, 10 ** 18, -10 ** 18):
            self.assertEqual(last(date_of(number)), [-10])


if __name__ == "__main__":
    unittest.main()
