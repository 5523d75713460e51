"""Plans: lists of one tuple (start, time) for each work of a net."""

from hurryprice.names import is_ratio, is_tuple_of
from hurryprice.offers import is_from_nought, is_offered, price_of_time
from hurryprice.ratios import NOUGHT, is_less, larger, minus, parted, plus, product, sum_of


def end_of(step):
    """When a work ends that has this start and time."""
    return plus(step[0], step[1])


def wait_slack(wait, plan):
    """By how much the other starts later than the wait asks; below (0, 1) where it isn't kept."""
    one, other, lag = wait
    return minus(plan[other][0], plus(end_of(plan[one]), lag))


def hold_slack(hold, plan):
    """By how much a hold is more than just met; below (0, 1) where it isn't kept."""
    kind, work, moment = hold
    if kind == "from":
        return minus(plan[work][0], moment)
    if kind == "till":
        return minus(moment, plan[work][0])
    return minus(moment, end_of(plan[work]))


def takes_one_corner(works, group, plan):
    """Tells whether all works of a group have times of corners of one number, of times that are offered."""
    numbers = []
    for work in group:
        times = [corner[0] for corner in works[work][1][1]]
        numbers.append(times.index(plan[work][1]))
    return all([number == numbers[0] for number in numbers])


def first_below(word, slacks):
    """The word with the number of the first slack below (0, 1), None where there is none."""
    for at, slack in enumerate(slacks):
        if is_less(slack, NOUGHT):
            return (word, at)
    return None


def first_untaken(works, groups, plan):
    """The first work whose time isn't offered; else the first group that doesn't take one corner."""
    for at, work in enumerate(works):
        if not is_offered(work[1], plan[at][1]):
            return ("time", at)
    for at, group in enumerate(groups):
        if not takes_one_corner(works, group, plan):
            return ("group", at)
    return None


def first_broken(net, plan, whole):
    """The first wish that a plan breaks, None where there is none; with None as the whole the sixth is left out."""
    works, waits, holds, groups = net
    broken = first_untaken(works, groups, plan)
    if broken is None:
        broken = first_below("start", [start for start, time in plan])
    if broken is None:
        broken = first_below("wait", [wait_slack(wait, plan) for wait in waits])
    if broken is None:
        broken = first_below("hold", [hold_slack(hold, plan) for hold in holds])
    if broken is None and whole is not None:
        broken = first_below("whole", [minus(whole, end_of(step)) for step in plan])
    return broken


def is_plan(net, thing):
    """Tells whether a thing is a plan of the net, whatever it keeps."""
    if not isinstance(thing, list) or len(thing) != len(net[0]):
        return False
    return all([is_tuple_of(step, 2) and is_ratio(step[0]) and is_from_nought(step[1]) for step in thing])


def is_plan_within(net, thing, whole):
    """Tells whether a thing is a plan of the net that is within the whole."""
    return is_plan(net, thing) and first_broken(net, thing, whole) is None


def price_of(net, plan):
    """The sum of the prices of a plan's times; NoTime where one isn't offered."""
    return sum_of([price_of_time(work[1], step[1]) for work, step in zip(net[0], plan)])


def whole_of(plan):
    """The latest end of a plan."""
    # From the first work on, not from (0, 1): all ends may lie below it.
    latest_end = end_of(plan[0])
    for step in plan:
        latest_end = larger(latest_end, end_of(step))
    return latest_end


def between(one, other, share):
    """The one and the share of by how much the other is more."""
    return plus(one, product(share, minus(other, one)))


def share_between(one, other, at):
    """By which share of the way from the one to the other one comes to what lies between."""
    return parted(minus(at, one), minus(other, one))


def mixed(one, other, share):
    """Two plans of one net mixed by a share."""
    return [(between(a[0], b[0], share), between(a[1], b[1], share)) for a, b in zip(one, other)]
