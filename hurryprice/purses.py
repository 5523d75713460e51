"""What a purse buys: the soonest whole, with a plan, and a paper that shows that none is sooner."""

from hurryprice.claims import claims_if_paper
from hurryprice.names import is_tuple_of, is_word
from hurryprice.nets import look_at_straight
from hurryprice.offers import is_from_nought
from hurryprice.plans import between, is_plan_within, price_of, share_between
from hurryprice.ratios import NOUGHT, is_less, minus, product
from hurryprice.shapes import shape_of
from hurryprice.stairlook import plan_at


def dearer_bends(shape, purse):
    """How many bends, the first ones, have a price that is more than the purse."""
    return len([bend for bend in shape if is_less(purse, bend[1])])


def soonest_for(shape, purse):
    """The least whole whose price is no more than the purse, None where the last bend's price is more."""
    many = dearer_bends(shape, purse)
    if many == len(shape):
        return None
    if many == 0:
        return shape[0][0]
    sooner, later = shape[many - 1], shape[many]
    return between(sooner[0], later[0], share_between(sooner[1], later[1], purse))


def shows_no_sooner(net, purse, whole, thing):
    """Tells whether a thing is a paper that shows, of every lesser whole, that no plan keeps the purse within it."""
    claims = claims_if_paper(net, thing)
    if claims is None or not is_less(NOUGHT, claims[1]):
        return False
    price, rate, length = claims
    return minus(price, product(rate, whole)) == purse or length == product(rate, whole)


def shows_too_dear(net, purse, thing):
    """Tells whether a thing is a paper of the rate (0, 1) whose price is more than the purse."""
    claims = claims_if_paper(net, thing)
    return claims is not None and claims[1] == NOUGHT and is_less(purse, claims[0])


def lets_buying(net, purse, thing):
    """Tells whether a thing is a buying for the net and the purse."""
    if is_tuple_of(thing, 2):
        return is_word(thing[0], "none") and shows_too_dear(net, purse, thing[1])
    if not is_tuple_of(thing, 4) or not is_word(thing[0], "bought"):
        return False
    word, whole, plan, paper = thing
    if not is_from_nought(whole) or not is_plan_within(net, plan, whole) or is_less(purse, price_of(net, plan)):
        return False
    return shows_no_sooner(net, purse, whole, paper)


def buying_of(net, stair, purse):
    """A buying of a straight net by a stair of it that has bends; NotStraight of another net."""
    look_at_straight(net)
    word, bends, papers, bar = stair
    shape = shape_of(stair)
    whole = soonest_for(shape, purse)
    if whole is None:
        return ("none", list(papers[-1]))
    many = dearer_bends(shape, purse)
    paper = bar if many == 0 else papers[many - 1]
    return ("bought", whole, plan_at(net, stair, whole), list(paper))
