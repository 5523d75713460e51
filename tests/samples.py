"""Nets, plans and papers made by chance, the same in each run; and starts reckoned in another way."""

from fractions import Fraction

from tests.asking import frac, part

MINUTE = Fraction(1, 10 ** 50)


def random_offer(source, kind):
    """An offer of one to five corners; a straight one by rates that rise."""
    many = source.randint(1, 5)
    price = Fraction(source.randint(0, 9), source.randint(1, 4))
    gaps = [Fraction(source.randint(1, 6), source.randint(1, 4)) for number in range(many - 1)]
    rates = [Fraction(source.randint(1, 40), source.randint(1, 6)) for number in range(many - 1)]
    if kind == "straight":
        rates = sorted({rate + Fraction(at, 1000) for at, rate in enumerate(rates)})
    time = sum(gaps, Fraction(source.randint(0, 3), 2))
    corners = [(part(time), part(price))]
    for gap, rate in zip(gaps, rates):
        time, price = time - gap, price + gap * rate
        corners.append((part(time), part(price)))
    return (kind, corners)


def random_plan(source, works, groups):
    """A plan of offered times, its starts from nought on, that takes one corner in each group."""
    numbers = {}
    for group in groups:
        number = source.randrange(len(works[group[0]][1][1]))
        numbers.update({work: number for work in group})
    plan = []
    for work, (name, (kind, corners)) in enumerate(works):
        number = numbers.get(work, source.randrange(len(corners)))
        time = frac(corners[number][0])
        if kind == "straight" and source.random() < 0.5:
            time += (frac(corners[0][0]) - time) * Fraction(source.randint(0, 4), 4)
        start = Fraction(source.choice([0, 0, source.randint(0, 24)]), 2)
        plan.append((part(start), part(time)))
    return plan


def random_works(source, kinds, many):
    """So many works, and groups of such by steps as have as many corners."""
    works = [("abcdefghij"[at], random_offer(source, source.choice(kinds))) for at in range(many)]
    alike = {}
    for work, (name, (kind, corners)) in enumerate(works):
        if kind == "steps":
            alike.setdefault(len(corners), []).append(work)
    return works, [group for group in alike.values() if len(group) > 1]


def loosened(source, one):
    """As much, or somewhat more."""
    return part(one + source.choice([0, 0, Fraction(source.randint(1, 9), 3)]))


def net_around(source, kinds, most, many_plans):
    """A net of a few things with a list of plans that keep all of it, and the plans' whole; see full_net_around."""
    many = source.randint(1, most)
    waits = source.randint(0, 6) if many > 1 else 0
    return full_net_around(source, kinds, (many, waits, source.randint(0, 5)), many_plans)


def full_net_around(source, kinds, counts, many_plans):
    """A net of so many works, waits and holds, many just kept by all its plans; the plans; a whole that they are in."""
    works, groups = random_works(source, kinds, counts[0])
    plans = [random_plan(source, works, groups) for number in range(many_plans)]
    starts = [[frac(start) for start, time in plan] for plan in plans]
    ends = [[frac(start) + frac(time) for start, time in plan] for plan in plans]
    waits, holds = [], []
    for number in range(counts[1]):
        one, other = source.sample(range(len(works)), 2)
        gap = min(start[other] - end[one] for start, end in zip(starts, ends))
        waits.append((one, other, part(-frac(loosened(source, -gap)))))
    for number in range(counts[2]):
        kind, work = source.choice(["from", "till", "by"]), source.randrange(len(works))
        if kind == "from":
            moment = part(-frac(loosened(source, -min(start[work] for start in starts))))
        else:
            moment = loosened(source, max(some[work] for some in (starts if kind == "till" else ends)))
        holds.append((kind, work, moment))
    whole = loosened(source, max(max(end) for end in ends))
    return (works, waits, holds, groups), plans, whole


def arcs_on(net, work):
    """Three lists: arcs that go in at a work, that go off at its start, that leave off at its end to no other work."""
    holds = {kind: [("hold", at) for at, hold in enumerate(net[2]) if hold[:2] == (kind, work)]
             for kind in ("from", "till", "by")}
    return [("start", work)] + holds["from"], holds["till"], [("end", work)] + holds["by"]


def random_way(source, net, let):
    """The arcs of a way from nought to an end or a hold through works, of such as are let; None where it gets stuck."""
    work = source.randrange(len(net[0]))
    ways = [arc for arc in arcs_on(net, work)[0] if let(arc)]
    if not ways:
        return None
    found = [source.choice(ways)]
    while len(found) < 9:
        going = [("wait", at) for at, wait in enumerate(net[1]) if wait[0] == work]
        tills, offs = arcs_on(net, work)[1:]
        ways = [arc for arc in going * 2 + tills + offs if let(arc)]
        if not ways:
            return None
        found.append(source.choice(ways))
        if found[-1][0] != "wait":
            return found
        work = net[1][found[-1][1]][1]
    return None


def random_paper(source, net, let=lambda arc: True):
    """A paper that several ways by chance make together, of arcs that are let."""
    amounts = {}
    for number in range(source.randint(0, 4)):
        amount = Fraction(source.randint(1, 12), source.randint(1, 3))
        for arc in random_way(source, net, let) or []:
            amounts[arc] = amounts.get(arc, 0) + amount
    paper = [(arc, part(amount)) for arc, amount in amounts.items()]
    source.shuffle(paper)
    return paper


def wishes_of(net, times, whole):
    """Rows (tail, head, length): the head comes no sooner than the tail and the length; the last place is nought."""
    root = len(times)
    rows = [(root, work, Fraction(0)) for work in range(root)]
    rows += [(one, other, times[one] + frac(lag)) for one, other, lag in net[1]]
    for kind, work, moment in net[2]:
        if kind == "from":
            rows.append((root, work, frac(moment)))
        else:
            rows.append((work, root, (times[work] if kind == "by" else 0) - frac(moment)))
    if whole is not None:
        rows += [(work, root, time - frac(whole)) for work, time in enumerate(times)]
    return rows


def reckoned_starts(net, times, whole):
    """The least and the greatest starts, by how far all places are from one another; None where there are none."""
    times = [frac(time) for time in times]
    root = len(times)
    far = {(one, one): Fraction(0) for one in range(root + 1)}
    for tail, head, length in wishes_of(net, times, whole):
        far[tail, head] = max(length, far.get((tail, head), length))
    for through in range(root + 1):
        for one in range(root + 1):
            for other in range(root + 1):
                if (one, through) in far and (through, other) in far:
                    length = far[one, through] + far[through, other]
                    far[one, other] = max(length, far.get((one, other), length))
    if any(far[one, one] > 0 for one in range(root + 1)):
        return None
    least = [part(far[root, work]) for work in range(root)]
    return least, [part(-far[work, root]) if whole is not None else None for work in range(root)]
