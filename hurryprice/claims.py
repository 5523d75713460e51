"""What papers claim and bar, and where they are tight."""

from hurryprice.errors import NoPaper, Unbalanced
from hurryprice.offers import least_with, price_of_time
from hurryprice.papers import amounts_of, rate_of
from hurryprice.plans import end_of, hold_slack, wait_slack
from hurryprice.ratios import NOUGHT, is_less, minus, plus, product, sum_of


def weight_of(net, paper):
    """The amounts times the waits and moments, those of holds till and by taken off."""
    waits, holds = net[1], net[2]
    weight = NOUGHT
    for (word, number), amount in paper:
        if word == "wait":
            weight = plus(weight, product(amount, waits[number][2]))
        elif word == "hold":
            kind, work, moment = holds[number]
            share = product(amount, moment)
            weight = plus(weight, share) if kind == "from" else minus(weight, share)
    return weight


def claims_of(net, paper):
    """A paper's (price, rate, length)."""
    amounts = amounts_of(net, paper)
    offered = [offer for name, offer in net[0]]
    weight = weight_of(net, paper)
    leasts = [least_with(offer, amount) for offer, amount in zip(offered, amounts)]
    quicks = [product(amount, offer[1][-1][0]) for offer, amount in zip(offered, amounts)]
    return (plus(weight, sum_of(leasts)), rate_of(paper), plus(weight, sum_of(quicks)))


def claims_if_paper(net, thing):
    """What claims_of tells of a paper of the net; None of anything else."""
    try:
        return claims_of(net, thing)
    except (NoPaper, Unbalanced):
        return None


def claimed(net, paper, whole):
    """What a paper claims for a whole."""
    price, rate, length = claims_of(net, paper)
    return minus(price, product(rate, whole))


def bars(net, paper, whole):
    """Tells whether a paper bars a whole."""
    price, rate, length = claims_of(net, paper)
    return is_less(product(rate, whole), length)


def arc_slack(net, arc, plan, whole):
    """By how much the wish of an arc is more than just kept."""
    word, number = arc
    if word == "start":
        return plan[number][0]
    if word == "end":
        return minus(whole, end_of(plan[number]))
    if word == "wait":
        return wait_slack(net[1][number], plan)
    return hold_slack(net[2][number], plan)


def is_least(offer, amount, time):
    """Tells whether a time's price, and the amount times the time, are together the offer's least for the amount."""
    return plus(price_of_time(offer, time), product(amount, time)) == least_with(offer, amount)


def is_tight(net, paper, plan, whole):
    """Tells whether all that carries a paper's amounts is just kept, and each work has the least for its amount."""
    amounts = amounts_of(net, paper)
    for arc, amount in paper:
        if arc_slack(net, arc, plan, whole) != NOUGHT:
            return False
    for at, work in enumerate(net[0]):
        if not is_least(work[1], amounts[at], plan[at][1]):
            return False
    return True
