"""What is cheapest where each unit of the whole costs a toll; papers mixed and raised."""

from hurryprice.claims import claims_if_paper
from hurryprice.names import is_ratio, is_tuple_of
from hurryprice.nets import look_at_straight
from hurryprice.papers import in_order, rate_of
from hurryprice.plans import between, is_plan_within, price_of, share_between
from hurryprice.ratios import NOUGHT, is_less, minus, parted, plus, product
from hurryprice.shapes import shape_of


def with_toll(price, whole, toll):
    """The price and the toll times the whole, together."""
    return plus(price, product(toll, whole))


def cheapest_bend(shape, toll):
    """The number of the first bend that costs least with the toll."""
    costs = [with_toll(price, whole, toll) for whole, price in shape]
    cheapest = 0
    for at, cost in enumerate(costs):
        if is_less(cost, costs[cheapest]):
            cheapest = at
    return cheapest


def least_cost(shape, toll):
    """The tuple (whole, cost) of the least whole that has the least cost with the toll."""
    # Between two bends the cost goes straight, so no whole has a lesser one, and no lesser whole the same.
    whole, price = shape[cheapest_bend(shape, toll)]
    return (whole, with_toll(price, whole, toll))


def lets_saving(net, toll, thing):
    """Tells whether a thing is a saving for the net and the toll."""
    if not is_tuple_of(thing, 4):
        return False
    whole, cost, plan, paper = thing
    if not is_ratio(whole) or not is_ratio(cost) or not is_plan_within(net, plan, whole):
        return False
    if with_toll(price_of(net, plan), whole, toll) != cost:
        return False
    claims = claims_if_paper(net, paper)
    return claims is not None and claims[1] == toll and claims[0] == cost


def paper_for_toll(stair, at, toll):
    """A paper whose rate is the toll, by those of the pieces ahead of the cheapest bend and behind it."""
    papers, bar = stair[2], stair[3]
    flatter = rate_of(papers[at])
    if at == 0:
        return raised_paper(papers[0], bar, parted(minus(toll, flatter), rate_of(bar)))
    return mixed_paper(papers[at], papers[at - 1], share_between(flatter, rate_of(papers[at - 1]), toll))


def saving_of(net, stair, toll):
    """A saving of a straight net by a stair of it that has bends; NotStraight of another net."""
    look_at_straight(net)
    at = cheapest_bend(shape_of(stair), toll)
    whole, price, plan = stair[1][at]
    return (whole, with_toll(price, whole, toll), list(plan), paper_for_toll(stair, at, toll))


def mixed_paper(one, other, share):
    """Two papers of one net mixed by a share."""
    ones, others = dict(one), dict(other)
    amounts = {}
    for arc, amount in one + other:
        amounts[arc] = between(ones.get(arc, NOUGHT), others.get(arc, NOUGHT), share)
    return in_order(amounts)


def raised_paper(one, other, many):
    """The one paper of a net raised by the other one so many times."""
    amounts = dict(one)
    for arc, amount in other:
        amounts[arc] = plus(amounts.get(arc, NOUGHT), product(many, amount))
    return in_order(amounts)
