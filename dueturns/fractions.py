"""Fractions: tuples (top, bottom) in lowest terms, the bottom from 1 on."""

from dueturns.checks import is_tuple_of, is_whole
from dueturns.errors import NoFraction


def common_divisor(one, other):
    """The greatest number that divides both; 0 where both are 0."""
    while other != 0:
        one, other = other, one % other
    return abs(one)


def made(top, bottom):
    """The fraction of a top and a bottom; NoFraction where the bottom is 0."""
    if bottom == 0:
        raise NoFraction("the bottom is 0")
    by = common_divisor(top, bottom)
    if bottom < 0:
        by = -by
    return (top // by, bottom // by)


def plus(one, other):
    """The sum of two fractions."""
    return made(one[0] * other[1] + other[0] * one[1], one[1] * other[1])


def minus(one, other):
    """The first fraction less the second one."""
    return made(one[0] * other[1] - other[0] * one[1], one[1] * other[1])


def times(one, other):
    """The product of two fractions."""
    return made(one[0] * other[0], one[1] * other[1])


def over(one, other):
    """The first fraction divided by the second one; NoFraction where that is nought."""
    return made(one[0] * other[1], one[1] * other[0])


def less(one, other):
    """Whether the first fraction is less than the second one."""
    return one[0] * other[1] < other[0] * one[1]


def floor_of(one):
    """The greatest whole number not above a fraction."""
    return one[0] // one[1]


def ceiling_of(one):
    """The least whole number not below a fraction."""
    return -(-one[0] // one[1])


def size_of(one):
    """A fraction without its sign."""
    return (abs(one[0]), one[1])


def is_fraction(thing):
    """Whether a thing, of any kind, is a fraction."""
    if not is_tuple_of(thing, 2):
        return False
    top, bottom = thing
    if not is_whole(top) or not is_whole(bottom):
        return False
    return bottom >= 1 and common_divisor(top, bottom) == 1
