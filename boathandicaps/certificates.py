"""The calls on one new object, taken one behind another out of one list of whole numbers."""

from boathandicaps.session import Session, add_race, amend, finish, load, withdraw
from boathandicaps.telling import (
    corrected_time, counting, date_of_day, day_and_legs, margin, number_of_day, order, page, printed, swing,
    time_in_wind, wind_of_time,
)

# By a call's number: how many whole numbers it has, then how many rows.
SHAPES = {
    0: (0, 1),
    1: (0, 0),
    2: (0, 1),
    3: (1, 0),
    4: (0, 2),
    5: (3, 0),
    6: (2, 0),
    7: (3, 0),
    8: (2, 0),
    9: (2, 0),
    10: (3, 0),
    11: (4, 0),
    12: (3, 0),
    13: (0, 1),
    14: (1, 0),
    15: (2, 0),
    16: (1, 0),
}


def take_rows(calls, start, count):
    """The rows that begin at start, each with how many numbers it has before it."""
    rows = []
    at = start
    while len(rows) < count:
        end = at + 1 + calls[at]
        rows.append(calls[at + 1:end])
        at = end
    return rows


def answer_telling_call(session, call, numbers, rows):
    if call == 1:
        return printed(session)
    if call == 6:
        return counting(session, numbers[0], numbers[1])
    if call == 7:
        return corrected_time(session, numbers[0], numbers[1], numbers[2])
    if call == 8:
        return order(session, numbers[0], numbers[1])
    if call == 9:
        return wind_of_time(session, numbers[0], numbers[1])
    if call == 10:
        return time_in_wind(session, numbers[0], numbers[1], numbers[2])
    if call == 11:
        return margin(session, numbers[0], numbers[1], numbers[2], numbers[3])
    if call == 12:
        return swing(session, numbers[0], numbers[1], numbers[2])
    if call == 13:
        return number_of_day(rows[0])
    if call == 14:
        return date_of_day(numbers[0])
    if call == 15:
        return page(session, numbers[0], numbers[1])
    return day_and_legs(session, numbers[0])


def answer_call(session, call, numbers, rows):
    if call == 0:
        return load(session, rows[0])
    if call == 2:
        return amend(session, rows[0])
    if call == 3:
        return withdraw(session, numbers[0])
    if call == 4:
        return add_race(session, rows[0], rows[1])
    if call == 5:
        return finish(session, numbers[0], numbers[1], numbers[2])
    return answer_telling_call(session, call, numbers, rows)


def answers(calls):
    """For each call, in order: how many numbers are answered, then these."""
    session = Session()
    given = []
    at = 0
    while at < len(calls):
        call = calls[at]
        end = at + 1 + SHAPES[call][0]
        numbers = calls[at + 1:end]
        rows = take_rows(calls, end, SHAPES[call][1])
        answer = answer_call(session, call, numbers, rows)
        given.append(len(answer))
        given.extend(answer)
        at = end + sum([1 + len(row) for row in rows])
    return given
