"""Nets: tuples (works, waits, holds, groups)."""

from hurryprice.errors import NoNet, NotStraight
from hurryprice.names import is_name, is_ratio, is_tuple_of, is_whole
from hurryprice.offers import is_offer, smoothed

HOLD_KINDS = ("from", "till", "by")
MOST_WORKS = 10
MOST_WAITS = 40
MOST_HOLDS = 40
MOST_GROUPS = 4


def is_number_below(thing, many):
    """Tells whether a thing is a number of one of so many things."""
    return is_whole(thing) and 0 <= thing < many


def is_work(thing, ahead):
    """Tells whether a thing can stand as a work behind those ahead of it."""
    if not is_tuple_of(thing, 2) or not is_name(thing[0]) or not is_offer(thing[1]):
        return False
    return thing[0] not in [work[0] for work in ahead]


def is_wait(thing, many):
    """Tells whether a thing is a wait between two of so many works."""
    if not is_tuple_of(thing, 3):
        return False
    one, other, wait = thing
    if not is_number_below(one, many) or not is_number_below(other, many):
        return False
    return one != other and is_ratio(wait)


def is_hold(thing, many):
    """Tells whether a thing is a hold of one of so many works."""
    if not is_tuple_of(thing, 3):
        return False
    kind, work, moment = thing
    if not isinstance(kind, str) or kind not in HOLD_KINDS:
        return False
    return is_number_below(work, many) and is_ratio(moment)


def is_group(thing, works, ahead):
    """Tells whether a thing can stand as a group of these works behind the groups ahead of it."""
    if not isinstance(thing, list) or len(thing) < 2:
        return False
    taken = [number for group in ahead for number in group]
    for number in thing:
        if not is_number_below(number, len(works)) or number in taken:
            return False
        taken.append(number)
    bound = [works[number][1] for number in thing]
    return all([kind == "steps" and len(corners) == len(bound[0][1]) for kind, corners in bound])


def look_at_length(part, thing, least, most):
    """Refuses a part of a net that is no list of so many things."""
    if not isinstance(thing, list) or not least <= len(thing) <= most:
        raise NoNet(part, None)


def look_at_works(works):
    """Refuses what is no list of works."""
    look_at_length("works", works, 1, MOST_WORKS)
    for at, work in enumerate(works):
        if not is_work(work, works[:at]):
            raise NoNet("works", at)


def look_at_waits(waits, many):
    """Refuses what is no list of waits between so many works."""
    look_at_length("waits", waits, 0, MOST_WAITS)
    for at, wait in enumerate(waits):
        if not is_wait(wait, many):
            raise NoNet("waits", at)


def look_at_holds(holds, many):
    """Refuses what is no list of holds of so many works."""
    look_at_length("holds", holds, 0, MOST_HOLDS)
    for at, hold in enumerate(holds):
        if not is_hold(hold, many):
            raise NoNet("holds", at)


def look_at_groups(groups, works):
    """Refuses what is no list of groups of these works."""
    look_at_length("groups", groups, 0, MOST_GROUPS)
    for at, group in enumerate(groups):
        if not is_group(group, works, groups[:at]):
            raise NoNet("groups", at)


def look_at_net(thing):
    """Tells None of a net; refuses anything else with NoNet."""
    if not is_tuple_of(thing, 4):
        raise NoNet("net", None)
    works, waits, holds, groups = thing
    look_at_works(works)
    look_at_waits(waits, len(works))
    look_at_holds(holds, len(works))
    look_at_groups(groups, works)


def is_straight(net):
    """Tells whether all offers of a net are straight."""
    return all([offer[0] == "straight" for name, offer in net[0]])


def look_at_straight(net):
    """Refuses a net that isn't straight."""
    if not is_straight(net):
        raise NotStraight("not all offers of this net are straight")


def smoothed_net(net):
    """The net with each offer smoothed, and no groups."""
    works, waits, holds = net[0], net[1], net[2]
    return ([(name, smoothed(offer)) for name, offer in works], list(waits), list(holds), [])
