"""Fractions: tuples (top, bottom) in lowest terms, bottom from 1 on, however long both get."""

from hurryprice.errors import NoNumber
from hurryprice.names import common_part, is_whole

NOUGHT = (0, 1)


def ratio(top, bottom):
    """The fraction of two whole numbers, the second not 0."""
    if not is_whole(top) or not is_whole(bottom):
        raise NoNumber("a fraction is made of two whole numbers")
    if bottom == 0:
        raise NoNumber("a fraction's bottom is not 0")
    return lowest(top, bottom)


def lowest(top, bottom):
    """The fraction of two whole numbers of which it is known that the second is not 0."""
    shared = common_part(top, bottom)
    if bottom < 0:
        shared = -shared
    return (top // shared, bottom // shared)


def plus(one, other):
    """Both together."""
    return lowest(one[0] * other[1] + other[0] * one[1], one[1] * other[1])


def minus(one, other):
    """The one less the other."""
    return lowest(one[0] * other[1] - other[0] * one[1], one[1] * other[1])


def product(one, other):
    """The one times the other."""
    return lowest(one[0] * other[0], one[1] * other[1])


def parted(one, other):
    """The one parted by the other."""
    if other[0] == 0:
        raise NoNumber("nothing is parted by nought")
    return lowest(one[0] * other[1], one[1] * other[0])


def is_less(one, other):
    """Tells whether the one is less than the other."""
    return one[0] * other[1] < other[0] * one[1]


def larger(one, other):
    """The larger one of two."""
    return other if is_less(one, other) else one


def smaller(one, other):
    """The smaller one of two."""
    return other if is_less(other, one) else one


def sum_of(some):
    """All of a list or tuple together, (0, 1) of none."""
    total = NOUGHT
    for one in some:
        total = plus(total, one)
    return total
