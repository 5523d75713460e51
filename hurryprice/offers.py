"""Offers: tuples (kind, corners), from the long time with the least price to the quick one with the greatest."""

from hurryprice.errors import NoTime
from hurryprice.names import is_ratio, is_tuple_of
from hurryprice.ratios import NOUGHT, is_less, minus, parted, plus, product, smaller

KINDS = ("straight", "steps")
MOST_CORNERS = 5


def is_from_nought(thing):
    """Tells whether a thing is a fraction from (0, 1) on."""
    return is_ratio(thing) and not is_less(thing, NOUGHT)


def is_corner(thing):
    """Tells whether a thing is a corner."""
    return is_tuple_of(thing, 2) and is_from_nought(thing[0]) and is_from_nought(thing[1])


def rate_between(longer, quicker):
    """By how much the price is greater at the quicker corner, parted by how much the time is less."""
    return parted(minus(quicker[1], longer[1]), minus(longer[0], quicker[0]))


def are_dearer_in_order(corners):
    """Tells whether each next corner has a lesser time and a greater price."""
    for at in range(1, len(corners)):
        ahead, corner = corners[at - 1], corners[at]
        if not is_less(corner[0], ahead[0]) or not is_less(ahead[1], corner[1]):
            return False
    return True


def are_ever_steeper(corners):
    """Tells whether each next rate is greater, of corners that get dearer in their order."""
    rates = [rate_between(corners[at - 1], corners[at]) for at in range(1, len(corners))]
    return all([is_less(rates[at - 1], rates[at]) for at in range(1, len(rates))])


def is_offer(thing):
    """Tells whether a thing is an offer."""
    if not is_tuple_of(thing, 2):
        return False
    kind, corners = thing
    if not isinstance(kind, str) or kind not in KINDS:
        return False
    if not isinstance(corners, list) or not 1 <= len(corners) <= MOST_CORNERS:
        return False
    if not all([is_corner(corner) for corner in corners]) or not are_dearer_in_order(corners):
        return False
    return kind == "steps" or are_ever_steeper(corners)


def is_offered(offer, time):
    """Tells whether a fraction is one of the offer's times."""
    kind, corners = offer
    if kind == "steps":
        return time in [corner[0] for corner in corners]
    return not is_less(time, corners[-1][0]) and not is_less(corners[0][0], time)


def corners_above(corners, time):
    """The corners of greater times than this one."""
    return [corner for corner in corners if is_less(time, corner[0])]


def price_of_time(offer, time):
    """The price of an offered time; NoTime of another one."""
    if not is_offered(offer, time):
        raise NoTime("this time is not offered")
    corners = offer[1]
    at = len(corners_above(corners, time))
    if corners[at][0] == time:
        return corners[at][1]
    longer = corners[at - 1]
    return plus(longer[1], product(rate_between(longer, corners[at]), minus(longer[0], time)))


def least_with(offer, rate):
    """The least, over the corners, of the price and the rate times the time."""
    costs = [plus(price, product(rate, time)) for time, price in offer[1]]
    least = costs[0]
    for cost in costs:
        least = smaller(least, cost)
    return least


def smoothed(offer):
    """The straight offer of those corners that lie below all straight ways between others."""
    kept = []
    for corner in offer[1]:
        while len(kept) > 1 and not is_less(rate_between(kept[-2], kept[-1]), rate_between(kept[-1], corner)):
            kept.pop()
        kept.append(corner)
    return ("straight", kept)


def cut_at(offer, time):
    """What is left of an offer from this time on."""
    kind, corners = offer
    if is_less(corners[0][0], time):
        return (kind, [(time, corners[0][1])])
    if kind == "steps":
        return (kind, [corner for corner in corners if not is_less(corner[0], time)])
    if not is_less(corners[-1][0], time):
        return (kind, list(corners))
    return (kind, corners_above(corners, time) + [(time, price_of_time(offer, time))])
