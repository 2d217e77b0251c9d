"""Reads a text of certificates behind the boats and certificates that are there already."""

from boathandicaps.days import read_day
from boathandicaps.papers import LEAST_FACTOR, MOST_FACTOR, Certificate, has_certificate
from boathandicaps.texts import codes, has_only_signs, is_name, line_words, read_number, text_lines

MOST_BOATS = 12
MOST_CERTIFICATES = 24
LEAST_ROWS = 2
MOST_ROWS = 8


class Reading:
    """What is there after the lines read so far, and the first line that's wrong (0: none)."""

    def __init__(self, boats, certificates):
        self.boats = list(boats)
        self.certificates = list(certificates)
        # Wind lines belong to a certificate of this text alone, never to one that was there before.
        self.latest = None
        self.wrong_line = 0


def lacks_rows(reading):
    return reading.latest is not None and len(reading.latest.rows) < LEAST_ROWS


def read_boat(reading, words):
    if lacks_rows(reading) or len(words) != 2 or not is_name(words[1]):
        return False
    if words[1] in reading.boats or len(reading.boats) >= MOST_BOATS:
        return False
    reading.boats.append(words[1])
    reading.latest = None
    return True


def read_certificate(reading, words):
    if lacks_rows(reading) or len(words) != 7 or len(reading.certificates) >= MOST_CERTIFICATES:
        return False
    number = read_number(words[1], 1, 999999)
    first_day = read_day(words[3])
    last_day = read_day(words[4])
    factor = read_number(words[5], LEAST_FACTOR, MOST_FACTOR)
    allowance = read_number(words[6], 0, 99999)
    if None in (number, first_day, last_day, factor, allowance):
        return False
    if last_day < first_day or words[2] not in reading.boats or has_certificate(reading.certificates, number):
        return False
    boat = reading.boats.index(words[2]) + 1
    reading.latest = Certificate(number, boat, first_day, last_day, factor, allowance)
    reading.certificates.append(reading.latest)
    return True


def may_follow(row, before):
    """Whether the row has more wind than the one before it, and is nowhere slower."""
    if row[0] <= before[0]:
        return False
    return row[1] <= before[1] and row[2] <= before[2] and row[3] <= before[3]


def read_wind(reading, words):
    certificate = reading.latest
    if certificate is None or len(words) != 5 or len(certificate.rows) >= MOST_ROWS:
        return False
    row = [read_number(words[1], 1, 99)] + [read_number(word, 1, 9999) for word in words[2:]]
    if None in row:
        return False
    if len(certificate.rows) > 0 and not may_follow(row, certificate.rows[-1]):
        return False
    certificate.rows.append(tuple(row))
    return True


def read_line(reading, line):
    """Takes in what the line says; answers whether it's right."""
    if not has_only_signs(line):
        return False
    words = line_words(line)
    if len(words) == 0 or words[0][0] == ord("#"):
        return True
    if words[0] == codes("boat"):
        return read_boat(reading, words)
    if words[0] == codes("cert"):
        return read_certificate(reading, words)
    if words[0] == codes("wind"):
        return read_wind(reading, words)
    return False


def read_text(text, boats, certificates):
    """The reading of the whole text, or of its lines up to the first that's wrong."""
    reading = Reading(boats, certificates)
    lines = text_lines(text)
    for place, line in enumerate(lines):
        if not read_line(reading, line):
            reading.wrong_line = place + 1
            return reading
    if lacks_rows(reading):
        reading.wrong_line = len(lines) + 1
    return reading
