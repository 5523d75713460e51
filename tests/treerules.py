"""Trees walked in another way, by what points 10.2 and 10.3 say; nets to ask of; all choices gone through."""

import itertools
from fractions import Fraction

from hurryprice.choices import chosen_net
from hurryprice.claims import claimed, claims_of
from hurryprice.errors import NoPaper, Unbalanced
from hurryprice.offers import price_of_time
from tests.asking import frac, part, steps, straight
from tests.samples import random_offer, reckoned_starts
from tests.stairrules import random_binds

WORKS = [("a", straight((4, 0), (2, 6))), ("b", steps((3, 1), (1, 9))), ("c", steps((5, 0), (2, 1), (1, 7))),
         ("d", steps((6, 0), (4, 2))), ("e", steps((7, 3)))]
# Straight works, works by steps with one corner and several, two of them in a group whose numbers don't rise.
NET = (WORKS, [(0, 1, (1, 2)), (1, 2, (-1, 1))], [("from", 0, (1, 1)), ("by", 2, (50, 1))], [[3, 1]])


class Wrong(Exception):
    def __init__(self, way):
        self.way = way


def is_leaf(net, whole, below, thing):
    """Tells whether a thing is a line or a bar of the net as chosen."""
    if type(thing) is not tuple or len(thing) != 2 or type(thing[0]) is not str or thing[0] not in ("line", "bar"):
        return False
    try:
        price, rate, length = [frac(one) for one in claims_of(net, thing[1])]
    except (NoPaper, Unbalanced):
        return False
    over = length - rate * frac(whole)
    return thing[0] == "line" or over > 0 or (below and over == 0 and rate > 0)


def is_split(net, choice, thing):
    """Tells whether a thing is a split under a choice."""
    if type(thing) is not tuple or len(thing) != 3 or type(thing[0]) is not str or thing[0] != "split":
        return False
    if type(thing[1]) is not int or thing[1] not in range(len(net[0])) or thing[1] in choice:
        return False
    kind, corners = net[0][thing[1]][1]
    return kind == "steps" and type(thing[2]) is list and len(thing[2]) == len(corners)


def walk_under(net, whole, below, thing, choice, way, seen):
    """The leaves under a choice as tuples (choice, leaf); Wrong with the way where something can't stand."""
    seen.append(way)
    if len(seen) > 500:
        raise Wrong(way)
    if is_split(net, choice, thing):
        found = []
        for at, tree in enumerate(thing[2]):
            together = [group for group in net[3] if thing[1] in group] or [[thing[1]]]
            more = {**choice, **{work: at for work in together[0]}}
            found.extend(walk_under(net, whole, below, tree, more, way + [at], seen))
        return found
    if not is_leaf(chosen_net(net, choice), whole, below, thing):
        raise Wrong(way)
    return [(choice, thing)]


def walk_by_rules(net, whole, below, thing):
    """("leaves", leaves, claim) of a tree, or ("wrong", way)."""
    try:
        leaves = walk_under(net, whole, below, thing, {}, [], [])
    except Wrong as e:
        return ("wrong", e.way)
    lines = [frac(claimed(chosen_net(net, choice), leaf[1], whole)) for choice, leaf in leaves if leaf[0] == "line"]
    return ("leaves", leaves, ("least", part(min(lines))) if lines else ("none",))


def tuples_in(tree):
    """How many tuples of a tree are walked."""
    return 1 + sum(tuples_in(one) for one in tree[2]) if tree[0] == "split" else 1


def all_corners(net):
    """All dicts from each work by steps to a corner's number that keep the groups, in no order that is promised."""
    works = [work for work, (name, offer) in enumerate(net[0]) if offer[0] == "steps"]
    found = []
    for numbers in itertools.product(*[range(len(net[0][work][1][1])) for work in works]):
        choice = dict(zip(works, numbers))
        if all(len({choice[work] for work in group}) == 1 for group in net[3]):
            found.append(choice)
    return found


def all_times(net, grain):
    """All lists of times by corners, straight works in so many parts between their quick and their long time."""
    for choice in all_corners(net):
        rows = []
        for work, (name, (kind, corners)) in enumerate(net[0]):
            if kind == "steps":
                rows.append([corners[choice[work]][0]])
            else:
                quick, long = frac(corners[-1][0]), frac(corners[0][0])
                rows.append(sorted({part(quick + (long - quick) * Fraction(at, grain)) for at in range(grain + 1)}))
        yield from itertools.product(*rows)


def reckoned_ends(net, grain=1):
    """Tuples (whole, price) of the soonest plan for each list of times that has one, as Python's own fractions."""
    found = []
    for times in all_times(net, grain):
        starts = reckoned_starts(net, times, None)
        if starts is not None:
            whole = max(frac(start) + frac(time) for start, time in zip(starts[0], times))
            price = sum(frac(price_of_time(work[1], time)) for work, time in zip(net[0], times))
            found.append((whole, price))
    return found


def random_steps_net(source, kinds, most):
    """A net of a few works whose waits and holds may or may not leave a plan, some works in a group."""
    many = source.randint(1, most)
    works = []
    for at in range(many):
        kind, corners = random_offer(source, source.choice(kinds))
        works.append(("abcdefghij"[at], (kind, corners[:3])))
    alike = {}
    for work, (name, (kind, corners)) in enumerate(works):
        if kind == "steps":
            alike.setdefault(len(corners), []).append(work)
    groups = [source.sample(group, len(group)) for group in alike.values() if len(group) > 1]
    binds = random_binds(source, many, -12, 3)
    return (works, *binds, [group for group in groups if source.random() < 0.5])
