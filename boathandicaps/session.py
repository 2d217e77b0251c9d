"""One object and the calls that change it: each answers a list of numbers, a refusal is one below 0 alone."""

from boathandicaps.days import read_day
from boathandicaps.papers import has_certificate
from boathandicaps.races import MOST_SECONDS, Race, read_legs, seconds_of
from boathandicaps.reading import read_text

NO_SUCH_BOAT = -2
NO_SUCH_RACE = -3
NO_ROOM = -4
NO_SUCH_CERTIFICATE = -5
NOT_TOLD_OF = -6
NO_DATE = -7
TEXT_TOO_LONG = -8
NO_LEGS = -9
OUT_OF_RANGE = -10
WRONG_TEXT = -1000

MOST_BYTES = 4000
MOST_RACES = 6


class Session:
    """Boats' names, certificates and races, as they are between two calls."""

    def __init__(self):
        self.boats = []
        self.certificates = []
        self.races = []


def is_boat(session, number):
    return 1 <= number <= len(session.boats)


def is_race(session, number):
    return 1 <= number <= len(session.races)


def missing(session, race_number, boats):
    """The refusal that is due if there's no such race or one of the boats isn't there, 0 if there's none."""
    if not is_race(session, race_number):
        return NO_SUCH_RACE
    if not all([is_boat(session, boat) for boat in boats]):
        return NO_SUCH_BOAT
    return 0


def take_text(session, text, boats, certificates):
    """Reads the text behind these boats and certificates; nothing changes unless all of it is right."""
    if len(text) > MOST_BYTES:
        return [TEXT_TOO_LONG]
    reading = read_text(text, boats, certificates)
    if reading.wrong_line > 0:
        return [WRONG_TEXT - reading.wrong_line]
    session.boats = reading.boats
    session.certificates = reading.certificates
    return [len(session.boats), len(session.certificates)]


def load(session, text):
    answer = take_text(session, text, [], [])
    if answer[0] >= 0:
        session.races = []
    return answer


def amend(session, text):
    return take_text(session, text, session.boats, session.certificates)


def withdraw(session, number):
    if not has_certificate(session.certificates, number):
        return [NO_SUCH_CERTIFICATE]
    session.certificates = [paper for paper in session.certificates if paper.number != number]
    return [len(session.certificates)]


def add_race(session, date, row):
    day = read_day(date)
    if day is None:
        return [NO_DATE]
    legs = read_legs(row)
    if legs is None:
        return [NO_LEGS]
    if len(session.races) >= MOST_RACES:
        return [NO_ROOM]
    session.races.append(Race(day, legs))
    return [len(session.races)]


def finish(session, race_number, boat, seconds):
    refusal = missing(session, race_number, [boat])
    if refusal < 0:
        return [refusal]
    if seconds < 0 or seconds > MOST_SECONDS:
        return [OUT_OF_RANGE]
    race = session.races[race_number - 1]
    before = seconds_of(race, boat)
    race.seconds[boat] = seconds
    return [before]
