"""By how much starts may slip without harm."""

from hurryprice.plans import end_of, hold_slack, wait_slack
from hurryprice.ratios import minus, smaller
from hurryprice.starts import latest


def slip_alone(net, plan, whole, work):
    """By how much a work's start may be later with all other starts as they are."""
    slip = minus(whole, end_of(plan[work]))
    for wait in net[1]:
        if wait[0] == work:
            slip = smaller(slip, wait_slack(wait, plan))
    for hold in net[2]:
        # A later start only helps a hold from.
        if hold[1] == work and hold[0] != "from":
            slip = smaller(slip, hold_slack(hold, plan))
    return slip


def slips_of(net, plan, whole):
    """For each work of a plan within the whole a tuple (alone, together)."""
    starts = latest(net, [time for start, time in plan], whole)[1]
    slips = []
    for work, step in enumerate(plan):
        slips.append((slip_alone(net, plan, whole, work), minus(starts[work], step[0])))
    return slips
