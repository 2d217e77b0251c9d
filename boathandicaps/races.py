"""Races: the course's time, corrected times, the wind that a time stands for, places, margins."""

from boathandicaps.papers import LEAST_FACTOR, MOST_FACTOR
from boathandicaps.quotients import is_less, lowest

TIME_ON_TIME = 0
TIME_ON_DISTANCE = 1
WIND_OF_TIME = 2
MOST_LEGS = 12
MOST_KIND = 2
MOST_LENGTH = 10000
MOST_SECONDS = 999999


class Race:
    """A race's day, its legs (pairs of kind and length), and each boat's seconds by her number."""

    def __init__(self, day, legs):
        self.day = day
        self.legs = legs
        self.seconds = {}


def is_way(way):
    return TIME_ON_TIME <= way <= WIND_OF_TIME


def read_legs(row):
    """The legs that the row of numbers tells, or None if they aren't right."""
    if len(row) % 2 != 0 or len(row) < 2 or len(row) > 2 * MOST_LEGS:
        return None
    legs = [(row[place], row[place + 1]) for place in range(0, len(row), 2)]
    for leg in legs:
        if leg[0] < 0 or leg[0] > MOST_KIND or leg[1] < 1 or leg[1] > MOST_LENGTH:
            return None
    return legs


def seconds_of(race, boat):
    """Her time, 0 if she hasn't finished."""
    return race.seconds.get(boat, 0)


def distance(legs):
    return sum([leg[1] for leg in legs])


def course_time(legs, row):
    """The course's time in the row's wind, in hundredths of a second."""
    return sum([leg[1] * row[1 + leg[0]] for leg in legs])


def course_time_in(legs, rows, wind):
    """The course's time in a wind that is a fraction of knots, a fraction of hundredths of a second."""
    if not is_less((rows[0][0], 1), wind):
        return lowest(course_time(legs, rows[0]), 1)
    if not is_less(wind, (rows[-1][0], 1)):
        return lowest(course_time(legs, rows[-1]), 1)
    place = 1
    while is_less((rows[place][0], 1), wind):
        place += 1
    before = rows[place - 1]
    time_before = course_time(legs, before)
    less_time = time_before - course_time(legs, rows[place])
    # Both are counted in the parts of a knot that the wind is told in, so that all stays whole.
    span = (rows[place][0] - before[0]) * wind[1]
    gone = wind[0] - before[0] * wind[1]
    return lowest(time_before * span - less_time * gone, span)


def corrected(way, certificate, legs, seconds):
    """The corrected time by way 0 or 1."""
    if way == TIME_ON_TIME:
        return lowest(seconds * certificate.factor, 1000)
    return lowest(1000 * seconds - certificate.allowance * distance(legs), 1000)


def wind_between(rows, times, hundredths):
    """The least wind in which the course's time is just this one, which lies between two rows' times."""
    # The times never rise from row to row, so the first one that isn't longer ends the least wind's span.
    place = 1
    while times[place] > hundredths:
        place += 1
    wind = rows[place - 1][0]
    more_wind = rows[place][0] - wind
    less_time = times[place - 1] - times[place]
    return lowest(wind * less_time + more_wind * (times[place - 1] - hundredths), less_time)


def wind_and_ratio(rows, legs, seconds):
    """The wind that the time stands for, and the ratio."""
    hundredths = 100 * seconds
    times = [course_time(legs, row) for row in rows]
    if hundredths >= times[0]:
        return (lowest(rows[0][0], 1), lowest(hundredths, times[0]))
    if hundredths < times[-1]:
        return (lowest(rows[-1][0], 1), lowest(hundredths, times[-1]))
    return (wind_between(rows, times, hundredths), lowest(1, 1))


def result(way, certificate, legs, seconds):
    """What boats are compared by: a corrected time, or by way 2 a wind and a ratio."""
    if way == WIND_OF_TIME:
        return wind_and_ratio(certificate.rows, legs, seconds)
    return corrected(way, certificate, legs, seconds)


def is_ahead(way, one, other):
    """Whether the one result is ahead of the other."""
    if way != WIND_OF_TIME:
        return is_less(one, other)
    if one[0] != other[0]:
        return is_less(other[0], one[0])
    return is_less(one[1], other[1])


def places(way, results):
    """From results by boats' numbers: pairs of place and number, in their order."""
    pairs = []
    for boat, own in results.items():
        ahead = [other for other in results.values() if is_ahead(way, other, own)]
        pairs.append((1 + len(ahead), boat))
    return sorted(pairs)


def margin_ahead(way, certificate, legs, other):
    """The most seconds with which she's ahead of the other result, 0 if there are none."""
    # A shorter time is never behind a longer one: those that are ahead are all the times up to the margin.
    ahead = 0
    not_ahead = MOST_SECONDS + 1
    while not_ahead - ahead > 1:
        middle = (ahead + not_ahead) // 2
        if is_ahead(way, result(way, certificate, legs, middle), other):
            ahead = middle
        else:
            not_ahead = middle
    return ahead


def factor_ahead(seconds, other):
    """The greatest factor with which the seconds are ahead of the other corrected time by way 0, 0 if there's none."""
    # The factor times the seconds, over 1000, must be less, not alike: so one is taken off before dividing.
    factor = (1000 * other[0] - 1) // (seconds * other[1])
    if factor < LEAST_FACTOR:
        return 0
    return min(factor, MOST_FACTOR)
