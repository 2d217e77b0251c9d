"""Dates, in a race's call and in certificates, and the numbers of days."""

import calendar
import datetime
import unittest

from boathandicaps.days import day_codes, read_day
from tests.helper import as_bytes, ask, cert, last, load, printed, race, text_of

RIGHT = (
    "1900-01-01", "2199-12-31", "2026-07-04", "2026-01-31", "2026-04-30", "2026-02-28",
    "1904-02-29", "2000-02-29", "2024-02-29", "2196-02-29", "2100-02-28",
)
WRONG = (
    "1899-12-31", "2200-01-01", "0000-01-01", "9999-12-31", "2026-00-10", "2026-13-10", "2026-01-00", "2026-01-32",
    "2026-04-31", "2026-06-31", "2026-09-31", "2026-11-31", "2026-02-29", "1900-02-29", "2100-02-29", "2000-02-30",
    "2026-7-4", "2026-07-4", "2026-07-041", "02026-07-04", "2026/07/04", "20260704", "2026-07:04", "2026_07-04",
    "2026-0a-04", "2026-07-0x", "x026-07-04", "2026-07-0/", "2026-07-0:", "-026-07-04", "2026--7-04",
)


class Dates(unittest.TestCase):
    def test_dates_of_races(self):
        for date in RIGHT:
            with self.subTest(date=date):
                self.assertEqual(last(race(date, [0, 1])), [1])

    def test_what_is_no_date_of_a_race(self):
        for date in WRONG + ("", " 2026-07-04", "2026-07-04 ", "2026-07-04\n", "2026 07 04", "2026-07-04" * 500):
            with self.subTest(date=date):
                self.assertEqual(last(race(date, [0, 1])), [-7])

    def test_bytes_that_are_no_digits(self):
        for code in (0, 10, 47, 58, 178, 255):
            date = as_bytes("2026-07-04")
            date[3] = code
            self.assertEqual(last(race(date, [0, 1])), [-7])

    def test_dates_of_certificates(self):
        for date in RIGHT:
            with self.subTest(date=date):
                text = "boat A\n" + cert(1, "A", date, date)
                self.assertEqual(last(load(text)), [1, 1])
                self.assertEqual(text_of(last(load(text), printed())), text)

    def test_what_is_no_date_of_a_certificate(self):
        for date in WRONG:
            with self.subTest(date=date):
                self.assertEqual(last(load("boat A\n" + cert(1, "A", date, "2199-12-31"))), [-1002])
                self.assertEqual(last(load("boat A\n" + cert(1, "A", "1900-01-01", date))), [-1002])

    def test_the_end_of_each_month(self):
        for year in (1900, 2026, 2028, 2199):
            for month in range(1, 13):
                length = calendar.monthrange(year, month)[1]
                calls = [race(f"{year}-{month:02}-{day:02}", [0, 1]) for day in (length, length + 1)]
                self.assertEqual(ask(*calls), [[1], [-7]])

    def test_every_day(self):
        day = datetime.date(1900, 1, 1)
        number = 0
        while day.year < 2200:
            date = as_bytes(day.isoformat())
            self.assertEqual(read_day(date), number)
            self.assertEqual(day_codes(number), date)
            day += datetime.timedelta(days=1)
            number += 1
        self.assertEqual(number, 109573)


if __name__ == "__main__":
    unittest.main()
