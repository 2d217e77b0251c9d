"""Fractions as pairs: a numerator and a denominator above 0, in lowest terms."""

from boathandicaps.texts import codes


def greatest_divisor(one, other):
    while other > 0:
        rest = one % other
        one = other
        other = rest
    return one


def lowest(top, bottom):
    """The fraction of top over bottom; bottom is above 0."""
    divisor = greatest_divisor(abs(top), bottom)
    return (top // divisor, bottom // divisor)


def is_less(one, other):
    return one[0] * other[1] < other[0] * one[1]


def nearest(fraction):
    """The nearest whole number, halves up."""
    # Floor division goes down below 0 too, so adding a half first always takes halves up.
    return (2 * fraction[0] + fraction[1]) // (2 * fraction[1])


def fraction_codes(fraction):
    return codes(str(fraction[0]) + "/" + str(fraction[1]))
