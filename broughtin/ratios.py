"""Fractions: tuples (top, bottom) of integers from 0 on, without a common divisor above 1."""

from math import gcd

NOTHING = (0, 1)
WHOLE = (1, 1)


def ratio(top, bottom):
    """The fraction top / bottom."""
    common = gcd(top, bottom)
    return (top // common, bottom // common)


def plus(one, two):
    """The sum of two fractions."""
    return ratio(one[0] * two[1] + two[0] * one[1], one[1] * two[1])


def times(one, top, bottom):
    """A fraction times top / bottom."""
    return ratio(one[0] * top, one[1] * bottom)


def exceeds(one, two):
    """Whether the first fraction is greater than the second one."""
    return one[0] * two[1] > two[0] * one[1]


def total_of(parts):
    """The sum of a list of fractions."""
    total = NOTHING
    for part in parts:
        total = plus(total, part)
    return total
