"""Dates of the Gregorian calendar and the numbers of their days."""

from boathandicaps.texts import DASH, codes, digits_value, is_digit

FIRST_YEAR = 1900
LAST_YEAR = 2199
# The number of 2199-12-31.
LAST_DAY = 109572
MONTH_LENGTHS = (31, 28, 31, 30, 31, 30, 31, 31, 30, 31, 30, 31)
DATE_SIZE = 10
DASH_PLACES = (4, 7)


def is_leap(year):
    if year % 100 == 0:
        return year % 400 == 0
    return year % 4 == 0


def month_length(year, month):
    if month == 2 and is_leap(year):
        return 29
    return MONTH_LENGTHS[month - 1]


def leap_days_before(year):
    past = year - 1
    return past // 4 - past // 100 + past // 400


def day_number(year, month, day):
    leap_days = leap_days_before(year) - leap_days_before(FIRST_YEAR)
    months = sum([month_length(year, past) for past in range(1, month)])
    return 365 * (year - FIRST_YEAR) + leap_days + months + day - 1


def has_date_form(word):
    if len(word) != DATE_SIZE:
        return False
    for place, code in enumerate(word):
        if place in DASH_PLACES:
            if code != DASH:
                return False
        elif not is_digit(code):
            return False
    return True


def read_day(word):
    """The number of the day whose date the word is, or None if it's no date."""
    if not has_date_form(word):
        return None
    year = digits_value(word[0:4])
    month = digits_value(word[5:7])
    day = digits_value(word[8:10])
    if year < FIRST_YEAR or year > LAST_YEAR or month < 1 or month > 12:
        return None
    if day < 1 or day > month_length(year, month):
        return None
    return day_number(year, month, day)


def day_codes(number):
    """The date of the day with this number."""
    # No year is longer than 366 days, so this one is never too late, and stepping on from it is short.
    year = FIRST_YEAR + number // 366
    while day_number(year + 1, 1, 1) <= number:
        year += 1
    rest = number - day_number(year, 1, 1)
    month = 1
    while rest >= month_length(year, month):
        rest -= month_length(year, month)
        month += 1
    return codes("-".join([str(year), str(month).zfill(2), str(rest + 1).zfill(2)]))
