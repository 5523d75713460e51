"""Changes of nets, and plans and papers carried over them."""

from hurryprice.errors import NoChange, NoNet
from hurryprice.joins import copied_works
from hurryprice.nets import is_number_below, look_at_net
from hurryprice.ratios import NOUGHT

# The words of changes, with the number of the part of a net that they change.
MORE = {"work": 0, "wait": 1, "hold": 2, "group": 3}
OTHER = {"offer": 0, "lag": 1, "moment": 2}
LESS = {"gone": 0, "unwait": 1, "unhold": 2, "ungroup": 3}


def has_form(net, thing):
    """Tells whether a thing has a change's form: its word, as many things as that takes, a number of what is there."""
    if not isinstance(thing, tuple) or len(thing) < 2 or not isinstance(thing[0], str):
        return False
    word, number = thing[0], thing[1]
    if word in MORE:
        return len(thing) == 2
    if word in OTHER:
        return len(thing) == 3 and is_number_below(number, len(net[OTHER[word]]))
    return word in LESS and len(thing) == 2 and is_number_below(number, len(net[LESS[word]]))


def staying(net, change):
    """Three lists, rising: the numbers of the works, of the waits and of the holds that a change leaves there."""
    works, waits, holds = [list(range(len(part))) for part in net[:3]]
    word, number = change[0], change[1]
    if word == "gone":
        works.remove(number)
        waits = [at for at in waits if number not in net[1][at][:2]]
        holds = [at for at in holds if number != net[2][at][1]]
    elif word == "unwait":
        waits.remove(number)
    elif word == "unhold":
        holds.remove(number)
    return (works, waits, holds)


def groups_left(net, change):
    """The groups that a change leaves there, without a work that goes."""
    if change[0] == "ungroup":
        return net[3][:change[1]] + net[3][change[1] + 1:]
    works = staying(net, change)[0]
    groups = [[work for work in group if work in works] for group in net[3]]
    return [group for group in groups if len(group) > 1]


def net_left(net, change):
    """The net without what goes, its works by their numbers among those that stay."""
    works, waits, holds = staying(net, change)
    left_waits, left_holds = [], []
    for at in waits:
        one, other, lag = net[1][at]
        left_waits.append((works.index(one), works.index(other), lag))
    for at in holds:
        kind, work, moment = net[2][at]
        left_holds.append((kind, works.index(work), moment))
    groups = [[works.index(work) for work in group] for group in groups_left(net, change)]
    return ([net[0][work] for work in works], left_waits, left_holds, groups)


def net_after(net, change):
    """What a thing of a change's form makes of a net, a net or none."""
    word = change[0]
    if word in LESS:
        return net_left(net, change)
    parts = list(net)
    if word in MORE:
        at = MORE[word]
        parts[at] = parts[at] + [change[1]]
    else:
        at, number = OTHER[word], change[1]
        # Offer, lag and moment all stand at the end of the tuple that they belong to.
        other = parts[at][number][:-1] + (change[2],)
        parts[at] = parts[at][:number] + [other] + parts[at][number + 1:]
    return tuple(parts)


def changed(net, change):
    """The changed net; NoChange of what is no change of the net."""
    if not has_form(net, change):
        raise NoChange("this is no change of this net")
    made = net_after(net, change)
    try:
        look_at_net(made)
    except NoNet:
        raise NoChange("what this would make is no net") from None
    works, waits, holds, groups = made
    return (copied_works(works), list(waits), list(holds), [list(group) for group in groups])


def plan_over(net, change, plan):
    """What carried_plan tells, of what is known to be a change of the net."""
    carried = [plan[work] for work in staying(net, change)[0]]
    if change[0] == "work":
        name, offer = change[1]
        carried.append((NOUGHT, offer[1][0][0]))
    return carried


def paper_over(net, change, paper):
    """What carried_paper tells, of what is known to be a change of the net."""
    works, waits, holds = staying(net, change)
    numbers = {"start": works, "end": works, "wait": waits, "hold": holds}
    carried = []
    for (word, number), amount in paper:
        if number not in numbers[word]:
            return None
        carried.append(((word, numbers[word].index(number)), amount))
    return carried


def carried_plan(net, change, plan):
    """What a plan has of each work of the changed net; a work more starts at (0, 1), with its long time."""
    changed(net, change)
    return plan_over(net, change, plan)


def carried_paper(net, change, paper):
    """The paper with its arcs' numbers in the changed net; None where an arc in it is gone."""
    changed(net, change)
    return paper_over(net, change, paper)
