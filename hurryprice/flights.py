"""The flight of best prices against whole time of a net of steps alone, told and looked at."""

from hurryprice.choices import chosen_net
from hurryprice.counting import all_choices, tree_over
from hurryprice.errors import NoTree, NotSteps
from hurryprice.names import is_tuple_of, is_word
from hurryprice.papers import rate_of
from hurryprice.ratios import NOUGHT, is_less
from hurryprice.shapes import piece_at
from hurryprice.stairlook import is_full_bend
from hurryprice.stairs import stair_of
from hurryprice.trees import leaves_of, tree_claim


def look_at_steps(net):
    """Refuses a net that has a straight offer."""
    if not all([offer[0] == "steps" for name, offer in net[0]]):
        raise NotSteps("not all offers of this net are by steps")


def soonest_of(bends):
    """The bend of the least whole, of such as have one the one of the least price."""
    soonest = bends[0]
    for bend in bends:
        if is_less(bend[0], soonest[0]) or (bend[0] == soonest[0] and is_less(bend[1], soonest[1])):
            soonest = bend
    return soonest


def best_bends(bends):
    """Those bends within whose whole none costs less, by rising wholes and falling prices."""
    best = []
    left = bends
    while len(left) > 0:
        soonest = soonest_of(left)
        best.append(soonest)
        left = [bend for bend in left if is_less(bend[1], soonest[1])]
    return best


def leaf_below(stair, whole):
    """The leaf of a choice by its stair: a bar where no plan is below the whole, of any whole where that is None."""
    if stair[0] == "none":
        return ("bar", list(stair[1]))
    # With all corners chosen a paper of nothing claims just their prices.
    if whole is None or is_less(stair[1][0][0], whole):
        return ("line", [])
    return ("bar", list(stair[3]))


def flight_of(net):
    """("flight", treads, tree), or ("none", tree); NotSteps of a net with a straight offer, then TooMany."""
    look_at_steps(net)
    stairs = [stair_of(chosen_net(net, choice)) for choice in all_choices(net)]
    last = tree_over(net, [leaf_below(stair, None) for stair in stairs])
    treads = []
    for whole, price, plan in best_bends([stair[1][0] for stair in stairs if stair[0] == "stair"]):
        tree = tree_over(net, [leaf_below(stair, whole) for stair in stairs])
        treads.append((whole, price, plan, tree))
    return ("flight", treads, last) if len(treads) > 0 else ("none", last)


def claim_if_tree(net, whole, below, thing):
    """What tree_claim tells of a tree; None of anything else."""
    try:
        return tree_claim(net, whole, below, thing)
    except NoTree:
        return None


def claims_flat(net, whole, thing):
    """What tree_claim tells of a tree for the whole all of whose papers have the rate (0, 1); None of anything else."""
    claim = claim_if_tree(net, whole, False, thing)
    if claim is None:
        return None
    rates = [rate_of(leaf[1]) for choice, leaf in leaves_of(net, whole, False, thing)]
    return claim if all([rate == NOUGHT for rate in rates]) else None


def is_tread(net, thing):
    """Tells whether a thing is a tuple (whole, price, plan, tree) but for the tree."""
    return is_tuple_of(thing, 4) and is_full_bend(net, thing[:3])


def shows_first(net, tread):
    """Tells whether the tree of the first tread claims that there is no plan below its whole."""
    return claim_if_tree(net, tread[0], True, tread[3]) == ("none",)


def shows_next(net, ahead, tread):
    """Tells whether a tread stands behind another one, and its tree claims that none below costs less than that one."""
    if not is_less(ahead[0], tread[0]) or not is_less(tread[1], ahead[1]):
        return False
    claim = claim_if_tree(net, tread[0], True, tread[3])
    # It can't claim that there is none: the plan ahead is within a lesser whole.
    return claim is not None and not is_less(claim[1], ahead[1])


def are_treads(net, thing):
    """Tells whether a thing is a list of one or more treads of the net."""
    if not isinstance(thing, list) or len(thing) == 0 or not all([is_tread(net, tread) for tread in thing]):
        return False
    if not shows_first(net, thing[0]):
        return False
    return all([shows_next(net, ahead, tread) for ahead, tread in zip(thing, thing[1:])])


def lets_flight(net, thing):
    """Tells whether a thing is a flight of a net of steps alone; NotSteps of another net."""
    look_at_steps(net)
    if is_tuple_of(thing, 2):
        return is_word(thing[0], "none") and claims_flat(net, NOUGHT, thing[1]) == ("none",)
    if not is_tuple_of(thing, 3) or not is_word(thing[0], "flight"):
        return False
    word, treads, tree = thing
    if not are_treads(net, treads):
        return False
    whole, price = treads[-1][0], treads[-1][1]
    return claims_flat(net, whole, tree) == ("least", price)


def tread_at(flight, whole):
    """The number of the last tread whose whole is not above this one, None below the first."""
    return piece_at(flight[1], whole)
