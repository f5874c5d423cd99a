"""FRACTIONS: pairs of integers without a common divisor, the second one from 1 on."""

from math import gcd

from tacthouse.kinds import is_integer, is_row

NOUGHT = (0, 1)
ONE = (1, 1)


def is_fraction(thing):
    """Whether a value is a FRACTION."""
    if not is_row(thing, 2, 2) or not is_integer(thing[0]) or not is_integer(thing[1]):
        return False
    return thing[1] >= 1 and gcd(thing[0], thing[1]) == 1


def is_from_nought(thing):
    """Whether a value is a FRACTION from nought on."""
    return is_fraction(thing) and thing[0] >= 0


def is_above_nought(thing):
    """Whether a value is a FRACTION above nought."""
    return is_fraction(thing) and thing[0] > 0


def reduced(top, bottom):
    """The FRACTION that is top divided by bottom, which is above 0."""
    common = gcd(top, bottom)
    return (top // common, bottom // common)


def whole(number):
    """The FRACTION that is an integer."""
    return (number, 1)


def plus(one, other):
    """The sum of two FRACTIONS."""
    return reduced(one[0] * other[1] + other[0] * one[1], one[1] * other[1])


def minus(one, other):
    """The first FRACTION less the other one."""
    return reduced(one[0] * other[1] - other[0] * one[1], one[1] * other[1])


def product_of(one, other):
    """The product of two FRACTIONS."""
    return reduced(one[0] * other[0], one[1] * other[1])


def divided(one, other):
    """The first FRACTION divided by the other one, which is above nought."""
    return reduced(one[0] * other[1], one[1] * other[0])


def contrary(one):
    """Nought less a FRACTION."""
    return (-one[0], one[1])


def is_less(one, other):
    """Whether the first FRACTION is less than the other one."""
    return one[0] * other[1] < other[0] * one[1]


def floor_of(one):
    """The greatest integer that is no greater than a FRACTION."""
    return one[0] // one[1]


def ceiling_of(one):
    """The least integer that is no less than a FRACTION."""
    return -(-one[0] // one[1])


def sum_of(fractions):
    """The sum of some FRACTIONS, perhaps of none."""
    total = NOUGHT
    for one in fractions:
        total = plus(total, one)
    return total
