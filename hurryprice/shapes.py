"""Shapes: the bends of a stair as tuples (whole, price), without plans and papers."""

from hurryprice.names import is_tuple_of
from hurryprice.offers import is_from_nought
from hurryprice.plans import between, share_between
from hurryprice.ratios import is_less, minus, parted


def shape_of(stair):
    """The shape of a stair that has bends."""
    return [(whole, price) for whole, price, plan in stair[1]]


def is_bend(thing):
    """Tells whether a thing can be a bend of a shape."""
    return is_tuple_of(thing, 2) and is_from_nought(thing[0]) and is_from_nought(thing[1])


def fall_between(sooner, later):
    """By how much the price is less at the later bend, parted by how much the whole is more."""
    return parted(minus(sooner[1], later[1]), minus(later[0], sooner[0]))


def is_shape(thing):
    """Tells whether a thing is a shape."""
    if not isinstance(thing, list) or len(thing) == 0 or not all([is_bend(bend) for bend in thing]):
        return False
    falls = []
    for sooner, later in zip(thing, thing[1:]):
        if not is_less(sooner[0], later[0]) or not is_less(later[1], sooner[1]):
            return False
        falls.append(fall_between(sooner, later))
    return all([is_less(later, sooner) for sooner, later in zip(falls, falls[1:])])


def piece_at(shape, whole):
    """The number of the last bend whose whole is not above this one, None below the first."""
    many = len([bend for bend in shape if not is_less(whole, bend[0])])
    return None if many == 0 else many - 1


def price_at(shape, whole):
    """The price for a whole, None below the first bend."""
    at = piece_at(shape, whole)
    if at is None:
        return None
    if at == len(shape) - 1:
        return shape[at][1]
    return between(shape[at][1], shape[at + 1][1], share_between(shape[at][0], shape[at + 1][0], whole))


def merged_wholes(one, other):
    """The wholes of the bends of two shapes, rising, each once."""
    wholes = []
    left, right = [bend[0] for bend in one], [bend[0] for bend in other]
    while len(left) > 0 or len(right) > 0:
        if len(right) == 0 or (len(left) > 0 and is_less(left[0], right[0])):
            whole = left.pop(0)
        else:
            whole = right.pop(0)
        if len(wholes) == 0 or wholes[-1] != whole:
            wholes.append(whole)
    return wholes
