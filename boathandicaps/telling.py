"""The calls that change nothing: what is told of certificates, dates, races and the boats in them."""

from boathandicaps.days import LAST_DAY, day_codes, read_day
from boathandicaps.papers import counting_certificate, written_back
from boathandicaps.quotients import fraction_codes, lowest, nearest
from boathandicaps.races import (
    TIME_ON_DISTANCE, TIME_ON_TIME, WIND_OF_TIME, course_time_in, distance, factor_ahead, is_way, margin_ahead, places,
    result, seconds_of,
)
from boathandicaps.session import (
    NO_DATE, NO_SUCH_BOAT, NO_SUCH_RACE, NOT_TOLD_OF, OUT_OF_RANGE, is_boat, is_race, missing,
)
from boathandicaps.texts import codes, counted, joined

MOST_TENTHS = 1000


def certificate_in(session, race, boat):
    return counting_certificate(session.certificates, boat, race.day)


def told_certificate(session, race, boat):
    """The certificate by which she's told of, or None if she isn't told of."""
    if seconds_of(race, boat) == 0:
        return None
    return certificate_in(session, race, boat)


def missing_or_untold(session, race_number, boats):
    """The refusal that is due if the race or a boat isn't there or a boat isn't told of, 0 if there's none."""
    refusal = missing(session, race_number, boats)
    if refusal < 0:
        return refusal
    race = session.races[race_number - 1]
    if None in [told_certificate(session, race, boat) for boat in boats]:
        return NOT_TOLD_OF
    return 0


def own_result(session, way, race, boat):
    """The result of a boat who is told of."""
    return result(way, told_certificate(session, race, boat), race.legs, seconds_of(race, boat))


def results_of(session, way, race):
    """The results of all who are told of, by their numbers."""
    results = {}
    for boat in range(1, len(session.boats) + 1):
        if told_certificate(session, race, boat) is not None:
            results[boat] = own_result(session, way, race, boat)
    return results


def printed(session):
    return written_back(session.boats, session.certificates)


def counting(session, boat, race_number):
    if not is_boat(session, boat):
        return [NO_SUCH_BOAT]
    if not is_race(session, race_number):
        return [NO_SUCH_RACE]
    certificate = certificate_in(session, session.races[race_number - 1], boat)
    return [0 if certificate is None else certificate.number]


def corrected_time(session, way, race_number, boat):
    if way != TIME_ON_TIME and way != TIME_ON_DISTANCE:
        return [OUT_OF_RANGE]
    refusal = missing_or_untold(session, race_number, [boat])
    if refusal < 0:
        return [refusal]
    fraction = own_result(session, way, session.races[race_number - 1], boat)
    return [nearest(fraction)] + counted(fraction_codes(fraction))


def order(session, way, race_number):
    if not is_way(way):
        return [OUT_OF_RANGE]
    if not is_race(session, race_number):
        return [NO_SUCH_RACE]
    pairs = places(way, results_of(session, way, session.races[race_number - 1]))
    answer = [len(pairs)]
    for pair in pairs:
        answer.extend(pair)
    return answer


def wind_of_time(session, race_number, boat):
    refusal = missing_or_untold(session, race_number, [boat])
    if refusal < 0:
        return [refusal]
    wind_then_ratio = own_result(session, WIND_OF_TIME, session.races[race_number - 1], boat)
    return counted(fraction_codes(wind_then_ratio[0])) + counted(fraction_codes(wind_then_ratio[1]))


def time_in_wind(session, race_number, boat, tenths):
    refusal = missing(session, race_number, [boat])
    if refusal < 0:
        return [refusal]
    if tenths < 0 or tenths > MOST_TENTHS:
        return [OUT_OF_RANGE]
    race = session.races[race_number - 1]
    certificate = certificate_in(session, race, boat)
    if certificate is None:
        return [NOT_TOLD_OF]
    return counted(fraction_codes(course_time_in(race.legs, certificate.rows, lowest(tenths, 10))))


def margin(session, way, race_number, boat, other):
    if not is_way(way):
        return [OUT_OF_RANGE]
    refusal = missing_or_untold(session, race_number, [boat, other])
    if refusal < 0:
        return [refusal]
    race = session.races[race_number - 1]
    certificate = told_certificate(session, race, boat)
    return [margin_ahead(way, certificate, race.legs, own_result(session, way, race, other))]


def swing(session, race_number, boat, other):
    refusal = missing_or_untold(session, race_number, [boat, other])
    if refusal < 0:
        return [refusal]
    race = session.races[race_number - 1]
    return [factor_ahead(seconds_of(race, boat), own_result(session, TIME_ON_TIME, race, other))]


def number_of_day(date):
    number = read_day(date)
    return [NO_DATE if number is None else number]


def date_of_day(number):
    if number < 0 or number > LAST_DAY:
        return [OUT_OF_RANGE]
    return day_codes(number)


def result_codes(way, told):
    """A result as a page tells it."""
    if way == WIND_OF_TIME:
        return fraction_codes(told[0])
    return codes(str(nearest(told)))


def page(session, way, race_number):
    if not is_way(way):
        return [OUT_OF_RANGE]
    if not is_race(session, race_number):
        return [NO_SUCH_RACE]
    race = session.races[race_number - 1]
    results = results_of(session, way, race)
    written = joined([codes("race"), day_codes(race.day), codes(str(distance(race.legs)))])
    for pair in places(way, results):
        boat = pair[1]
        words = [codes(str(pair[0])), session.boats[boat - 1], codes(str(seconds_of(race, boat)))]
        words.append(codes(str(told_certificate(session, race, boat).number)))
        words.append(result_codes(way, results[boat]))
        written.extend(joined(words))
    return written


def day_and_legs(session, race_number):
    if not is_race(session, race_number):
        return [NO_SUCH_RACE]
    race = session.races[race_number - 1]
    answer = [race.day, distance(race.legs)]
    for leg in race.legs:
        answer.extend(leg)
    return answer
