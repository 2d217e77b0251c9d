"""A boat's certificates: what one says, which one counts, how they are written back."""

from boathandicaps.days import day_codes
from boathandicaps.texts import codes, joined

LEAST_FACTOR = 100
MOST_FACTOR = 9999


class Certificate:
    """One certificate; a row is a wind and the seconds a mile on a beat, a reach, a run."""

    def __init__(self, number, boat, first_day, last_day, factor, allowance):
        self.number = number
        self.boat = boat
        self.first_day = first_day
        self.last_day = last_day
        self.factor = factor
        self.allowance = allowance
        self.rows = []


def has_certificate(certificates, number):
    return any([certificate.number == number for certificate in certificates])


def counting_certificate(certificates, boat, day):
    """The certificate that counts for the boat on the day, or None."""
    held = [paper for paper in certificates if paper.boat == boat and paper.first_day <= day <= paper.last_day]
    return max(held, key=lambda paper: (paper.first_day, paper.number), default=None)


def certificate_codes(certificate, name):
    words = [codes("cert"), codes(str(certificate.number)), name]
    words.append(day_codes(certificate.first_day))
    words.append(day_codes(certificate.last_day))
    words.append(codes(str(certificate.factor)))
    words.append(codes(str(certificate.allowance)))
    written = joined(words)
    for row in certificate.rows:
        written.extend(joined([codes("wind")] + [codes(str(value)) for value in row]))
    return written


def written_back(boats, certificates):
    written = []
    for name in boats:
        written.extend(joined([codes("boat"), name]))
    for certificate in certificates:
        written.extend(certificate_codes(certificate, boats[certificate.boat - 1]))
    return written
