"""The calls on one object: each answers a list of numbers, a refusal is one below 0 alone."""

from boathandicaps.days import read_day
from boathandicaps.papers import counting_certificate, has_certificate, written_back
from boathandicaps.quotients import fraction_codes, nearest
from boathandicaps.races import (
    TIME_ON_DISTANCE, TIME_ON_TIME, WIND_OF_TIME, Race, corrected, places, read_legs, result, seconds_of,
)
from boathandicaps.reading import read_text
from boathandicaps.texts import counted

NO_SUCH_BOAT = -2
NO_SUCH_RACE = -3
NO_ROOM = -4
NO_SUCH_CERTIFICATE = -5
NOT_TOLD_OF = -6
NO_DATE = -7
TEXT_TOO_LONG = -8
NO_LEGS = -9
OUT_OF_RANGE = -10
WRONG_TEXT = -1000

MOST_BYTES = 4000
MOST_RACES = 6
MOST_SECONDS = 999999


class Session:
    """Boats' names, certificates and races, as they are between two calls."""

    def __init__(self):
        self.boats = []
        self.certificates = []
        self.races = []


def is_boat(session, number):
    return 1 <= number <= len(session.boats)


def is_race(session, number):
    return 1 <= number <= len(session.races)


def certificate_in(session, race, boat):
    return counting_certificate(session.certificates, boat, race.day)


def take_text(session, text, boats, certificates):
    """Reads the text behind these boats and certificates; nothing changes unless all of it is right."""
    if len(text) > MOST_BYTES:
        return [TEXT_TOO_LONG]
    reading = read_text(text, boats, certificates)
    if reading.wrong_line > 0:
        return [WRONG_TEXT - reading.wrong_line]
    session.boats = reading.boats
    session.certificates = reading.certificates
    return [len(session.boats), len(session.certificates)]


def load(session, text):
    answer = take_text(session, text, [], [])
    if answer[0] >= 0:
        session.races = []
    return answer


def printed(session):
    return written_back(session.boats, session.certificates)


def amend(session, text):
    return take_text(session, text, session.boats, session.certificates)


def withdraw(session, number):
    if not has_certificate(session.certificates, number):
        return [NO_SUCH_CERTIFICATE]
    session.certificates = [paper for paper in session.certificates if paper.number != number]
    return [len(session.certificates)]


def add_race(session, date, row):
    day = read_day(date)
    if day is None:
        return [NO_DATE]
    legs = read_legs(row)
    if legs is None:
        return [NO_LEGS]
    if len(session.races) >= MOST_RACES:
        return [NO_ROOM]
    session.races.append(Race(day, legs))
    return [len(session.races)]


def finish(session, race_number, boat, seconds):
    if not is_race(session, race_number):
        return [NO_SUCH_RACE]
    if not is_boat(session, boat):
        return [NO_SUCH_BOAT]
    if seconds < 0 or seconds > MOST_SECONDS:
        return [OUT_OF_RANGE]
    race = session.races[race_number - 1]
    before = seconds_of(race, boat)
    race.seconds[boat] = seconds
    return [before]


def counting(session, boat, race_number):
    if not is_boat(session, boat):
        return [NO_SUCH_BOAT]
    if not is_race(session, race_number):
        return [NO_SUCH_RACE]
    certificate = certificate_in(session, session.races[race_number - 1], boat)
    return [0 if certificate is None else certificate.number]


def corrected_time(session, way, race_number, boat):
    if way != TIME_ON_TIME and way != TIME_ON_DISTANCE:
        return [OUT_OF_RANGE]
    if not is_race(session, race_number):
        return [NO_SUCH_RACE]
    if not is_boat(session, boat):
        return [NO_SUCH_BOAT]
    race = session.races[race_number - 1]
    certificate = certificate_in(session, race, boat)
    if certificate is None or seconds_of(race, boat) == 0:
        return [NOT_TOLD_OF]
    fraction = corrected(way, certificate, race.legs, seconds_of(race, boat))
    return [nearest(fraction)] + counted(fraction_codes(fraction))


def results_of(session, way, race):
    """The results of all who are told of, by their numbers."""
    results = {}
    for boat in range(1, len(session.boats) + 1):
        certificate = certificate_in(session, race, boat)
        seconds = seconds_of(race, boat)
        if certificate is not None and seconds > 0:
            results[boat] = result(way, certificate, race.legs, seconds)
    return results


def order(session, way, race_number):
    if way < TIME_ON_TIME or way > WIND_OF_TIME:
        return [OUT_OF_RANGE]
    if not is_race(session, race_number):
        return [NO_SUCH_RACE]
    pairs = places(way, results_of(session, way, session.races[race_number - 1]))
    answer = [len(pairs)]
    for pair in pairs:
        answer.extend(pair)
    return answer
