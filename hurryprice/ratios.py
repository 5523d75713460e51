"""Fractions: tuples (top, bottom) in lowest terms, bottom from 1 on, however long both get."""

from hurryprice.errors import NoNumber
from hurryprice.names import common_part, is_whole

NOUGHT = (0, 1)


def ratio(top, bottom):
    """The fraction of two whole numbers, the second not 0."""
    if not is_whole(top) or not is_whole(bottom):
        raise NoNumber("a fraction is made of two whole numbers")
    if bottom == 0:
        raise NoNumber("a fraction's bottom is not 0")
    return lowest(top, bottom)


def lowest(top, bottom):
    """The fraction of two whole numbers of which it is known that the second is not 0."""
    shared = common_part(top, bottom)
    if bottom < 0:
        shared = -shared
    return (top // shared, bottom // shared)


def plus(one, other):
    """Both together."""
    shared = common_part(one[1], other[1])
    mine, theirs = one[1] // shared, other[1] // shared
    top = one[0] * theirs + other[0] * mine
    # Top and bottom can only share what the bottoms shared, and common parts of shorter numbers are sooner found.
    rest = common_part(top, shared)
    return (top // rest, mine * (other[1] // rest))


def minus(one, other):
    """The one less the other."""
    return plus(one, (-other[0], other[1]))


def product(one, other):
    """The one times the other."""
    # Within one fraction nothing is shared, so only across both of them.
    mine, theirs = common_part(one[0], other[1]), common_part(other[0], one[1])
    return ((one[0] // mine) * (other[0] // theirs), (one[1] // theirs) * (other[1] // mine))


def parted(one, other):
    """The one parted by the other."""
    top, bottom = other
    if top == 0:
        raise NoNumber("nothing is parted by nought")
    return product(one, (bottom, top) if top > 0 else (-bottom, -top))


def is_less(one, other):
    """Tells whether the one is less than the other."""
    return one[0] * other[1] < other[0] * one[1]


def larger(one, other):
    """The larger one of two."""
    return other if is_less(one, other) else one


def smaller(one, other):
    """The smaller one of two."""
    return other if is_less(other, one) else one


def sum_of(some):
    """All of a list or tuple together, (0, 1) of none."""
    total = NOUGHT
    for one in some:
        total = plus(total, one)
    return total
