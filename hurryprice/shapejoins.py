"""Shapes put beside or behind one another, scaled."""

from hurryprice.ratios import is_less, larger, minus, plus, product
from hurryprice.shapes import merged_wholes, price_at


def shapes_beside(one, other):
    """Two shapes beside one another: both prices together."""
    first = larger(one[0][0], other[0][0])
    # Where one of them bends, both together bend, too.
    wholes = [whole for whole in merged_wholes(one, other) if not is_less(whole, first)]
    return [(whole, plus(price_at(one, whole), price_at(other, whole))) for whole in wholes]


def pieces_of(shape):
    """The pieces between the bends, as tuples (by how much the whole is more, by how much the price is less)."""
    return [(minus(later[0], sooner[0]), minus(sooner[1], later[1])) for sooner, later in zip(shape, shape[1:])]


def is_steeper(one, other):
    """Tells whether the one piece falls by a greater rate than the other."""
    return is_less(product(other[1], one[0]), product(one[1], other[0]))


def by_falling_rates(one, other):
    """The pieces of two lists, each by falling rates, in one such list, those of one rate as one piece."""
    found = []
    left, right = list(one), list(other)
    while len(left) > 0 and len(right) > 0:
        if is_steeper(left[0], right[0]):
            found.append(left.pop(0))
        elif is_steeper(right[0], left[0]):
            found.append(right.pop(0))
        else:
            mine, theirs = left.pop(0), right.pop(0)
            found.append((plus(mine[0], theirs[0]), plus(mine[1], theirs[1])))
    return found + left + right


def shapes_behind(one, other, wait):
    """The other shape behind the one by a wait: the least of both prices together over all ways to share a whole."""
    whole, price = plus(plus(one[0][0], other[0][0]), wait), plus(one[0][1], other[0][1])
    shape = [(whole, price)]
    for more, less in by_falling_rates(pieces_of(one), pieces_of(other)):
        whole, price = plus(whole, more), minus(price, less)
        shape.append((whole, price))
    return shape


def shape_scaled(shape, span, cost):
    """The shape with each whole span times, each price cost times as much."""
    return [(product(span, whole), product(cost, price)) for whole, price in shape]
