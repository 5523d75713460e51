"""Stairs looked at, and read."""

from hurryprice.claims import claims_if_paper
from hurryprice.names import is_ratio, is_tuple_of, is_word
from hurryprice.nets import look_at_straight
from hurryprice.plans import is_plan_within, mixed, price_of, share_between
from hurryprice.ratios import NOUGHT, is_less, minus, product
from hurryprice.shapes import piece_at, shape_of


def bars_every_whole(net, thing):
    """Tells whether a thing is a paper of the rate (0, 1) and a length above (0, 1)."""
    claims = claims_if_paper(net, thing)
    return claims is not None and claims[1] == NOUGHT and is_less(NOUGHT, claims[2])


def is_bar_at(net, thing, whole):
    """Tells whether a thing is a paper of a rate above (0, 1) whose length is just the rate times the whole."""
    claims = claims_if_paper(net, thing)
    return claims is not None and is_less(NOUGHT, claims[1]) and claims[2] == product(claims[1], whole)


def is_full_bend(net, thing):
    """Tells whether a thing is a tuple (whole, price, plan), the plan within the whole and of this price."""
    if not is_tuple_of(thing, 3):
        return False
    whole, price, plan = thing
    if not is_ratio(whole) or not is_ratio(price) or not is_plan_within(net, plan, whole):
        return False
    return price_of(net, plan) == price


def are_bends(net, thing):
    """Tells whether a thing is a list of one or more bends of the net by rising wholes."""
    if not isinstance(thing, list) or len(thing) == 0 or not all([is_full_bend(net, bend) for bend in thing]):
        return False
    return all([is_less(sooner[0], later[0]) for sooner, later in zip(thing, thing[1:])])


def claims_at(claims, bend):
    """Tells whether a paper of these claims claims for the bend's whole its price."""
    return minus(claims[0], product(claims[1], bend[0])) == bend[1]


def are_papers_of(net, bends, thing):
    """Tells whether a thing is a list of a paper for each piece between the bends, and for the flat one behind."""
    if not isinstance(thing, list) or len(thing) != len(bends):
        return False
    told = [claims_if_paper(net, paper) for paper in thing]
    if None in told or told[-1][1] != NOUGHT:
        return False
    if not all([claims_at(claims, bend) for claims, bend in zip(told, bends)]):
        return False
    if not all([claims_at(claims, later) for claims, later in zip(told, bends[1:])]):
        return False
    return all([is_less(later[1], sooner[1]) for sooner, later in zip(told, told[1:])])


def lets_stair(net, thing):
    """Tells whether a thing is a stair of a straight net; NotStraight of another net."""
    look_at_straight(net)
    if is_tuple_of(thing, 2):
        return is_word(thing[0], "none") and bars_every_whole(net, thing[1])
    if not is_tuple_of(thing, 4) or not is_word(thing[0], "stair"):
        return False
    word, bends, papers, bar = thing
    return are_bends(net, bends) and are_papers_of(net, bends, papers) and is_bar_at(net, bar, bends[0][0])


def plan_at(net, stair, whole):
    """A plan within the whole of the stair's price, None below the first bend; NotStraight of another net."""
    look_at_straight(net)
    bends = stair[1]
    at = piece_at(shape_of(stair), whole)
    if at is None:
        return None
    if at == len(bends) - 1:
        return list(bends[at][2])
    return mixed(bends[at][2], bends[at + 1][2], share_between(bends[at][0], bends[at + 1][0], whole))
