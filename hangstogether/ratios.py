"""Fractions: pairs of what stands over and under the line, in least terms."""

from math import gcd, lcm

from hangstogether.kinds import is_integer, is_row


def is_fraction(value):
    """Tell whether a value is a fraction."""
    if not is_row(value, 2) or not is_integer(value[0]) or not is_integer(value[1]):
        return False
    over, under = value
    return over >= 0 and under >= 1 and gcd(over, under) == 1


def fraction(over, under):
    """Return the fraction with this over that, in least terms."""
    common = gcd(over, under)
    return over // common, under // common


def common_under(fractions):
    """Return the least number that can stand under all of some fractions."""
    under = 1
    for told in fractions:
        under = lcm(under, told[1])
    return under


def brought_to(under, fractions):
    """Return what stands over the line of each fraction if this number stands under it."""
    return [told[0] * (under // told[1]) for told in fractions]
