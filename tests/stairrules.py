"""What points 6.1, 8.2 and 8.5 ask, one by one, by plans and claims alone; nets to ask it of; good things spoilt."""

from fractions import Fraction

from hurryprice.claims import claimed, claims_of
from hurryprice.plans import first_broken, price_of
from tests.asking import Asking, frac, part, straight, things_of_every_kind
from tests.samples import MINUTE, net_around, random_offer

# Two works, dearer by 3 and by 4 for each unit, half a unit between them: bends at 7/2, 11/2 and 15/2.
ROW = ([("dig", straight((4, 0), (2, 6))), ("pour", straight((3, 1), (1, 9)))], [(0, 1, (1, 2))], [], [])
ALONE = ([("a", straight((6, 1), (4, 3), (3, 7)))], [], [], [])
FIXED = ([("a", straight((5, 2)))], [], [], [])


def rates_of(net, papers):
    return [frac(claims_of(net, paper)[1]) for paper in papers]


def bars_every_whole(net, paper):
    price, rate, length = claims_of(net, paper)
    return rate == (0, 1) and frac(length) > 0


def is_bar_at(net, paper, whole):
    price, rate, length = claims_of(net, paper)
    return frac(rate) > 0 and frac(length) == frac(rate) * frac(whole)


def keeps_stair_rules(net, stair):
    """Tells whether all that 6.1 says is so, of a thing of a stair's form with true plans and papers."""
    if stair[0] == "none":
        return bars_every_whole(net, stair[1])
    word, bends, papers, bar = stair
    wholes, rates = [frac(bend[0]) for bend in bends], rates_of(net, papers)
    if len(papers) != len(bends) or sorted(set(wholes)) != wholes or sorted(set(rates), reverse=True) != rates:
        return False
    for whole, price, plan in bends:
        if first_broken(net, plan, whole) is not None or price_of(net, plan) != price:
            return False
    for at, paper in enumerate(papers):
        for whole, price, plan in bends[at:at + 2]:
            if claimed(net, paper, whole) != price:
                return False
    return rates[-1] == 0 and is_bar_at(net, bar, bends[0][0])


def random_binds(source, many, low, most):
    """Waits and holds of so many works that may or may not leave a plan; back they wait no less than low."""
    waits, holds = [], []
    for number in range(source.randint(0, 2 * many) if many > 1 else 0):
        one, other = source.sample(range(many), 2)
        least = low if one > other else -3
        waits.append((one, other, part(Fraction(source.randint(least, 4), source.randint(1, 3)))))
    for number in range(source.randint(0, most)):
        kind = source.choice(["from", "till", "by"])
        moment = source.randint(-2, 6) if kind == "from" else source.randint(2, 30)
        holds.append((kind, source.randrange(many), part(Fraction(moment, source.randint(1, 2)))))
    return waits, holds


def random_net(source, most):
    """A straight net whose waits and holds may or may not leave a plan."""
    many = source.randint(1, most)
    works = [("abcdefghij"[at], random_offer(source, "straight")) for at in range(many)]
    return (works, *random_binds(source, many, -20, 4), [])


def planned_net(source, most):
    """A straight net that has a plan, some of its waits and holds just kept."""
    return net_around(source, ("straight",), most, source.randint(1, 3))[0]


def ring_net(source, lag=Fraction(0)):
    """A net whose works lead round so that with some of their times they come to just nought, and the lag."""
    many = source.randint(2, 4)
    works = [("abcd"[at], random_offer(source, "straight")) for at in range(many)]
    lags = [Fraction(source.randint(-4, 4), source.randint(1, 3)) for work in works]
    times = [frac(source.choice(offer[1])[0]) for name, offer in works]
    if lag > 0:
        times = [frac(offer[1][-1][0]) for name, offer in works]
    lags[-1] = lag - sum(times) - sum(lags[:-1])
    return (works, [(at, (at + 1) % many, part(lags[at])) for at in range(many)], [], [])


def long_offer(source, corners):
    """A straight offer whose tops and bottoms have up to fifty-nine figures."""
    def long_one(low, high):
        bottom = source.randrange(10 ** 56, 10 ** 57)
        return Fraction(source.randrange(low * bottom, high * bottom), bottom)

    times = sorted([long_one(1, 9) for number in range(corners)], reverse=True)
    price, made = long_one(0, 3), []
    for number in range(corners):
        if number > 0:
            price += (times[number - 1] - times[number]) * long_one(4 * number, 4 * number + 3)
            price = price.limit_denominator(10 ** 57)
        made.append((times[number], price))
    return straight(*made)


def long_net(source, many, corners, waits, holds):
    """A net of long fractions that has a plan: its waits lead from lesser to greater numbers, its holds are wide."""
    works = [("abcdefghij"[at], long_offer(source, corners)) for at in range(many)]
    made = ([], [])
    for number in range(waits):
        one, other = sorted(source.sample(range(many), 2))
        made[0].append((one, other, part(Fraction(source.randrange(-10 ** 58, 10 ** 58), 10 ** 58 - number))))
    for number in range(holds):
        kind, moment = source.choice([("from", 2), ("till", 150), ("by", 160)])
        made[1].append((kind, source.randrange(many), part(moment + Fraction(number, 10 ** 58 + number))))
    return (works, made[0], made[1], [])


def spoilt(thing, shorter=True):
    """Copies of a thing with one place, itself too, in the stead of which stands a thing of another kind or form.

    Also such of which a tuple or, where told, a list lacks its last thing.
    """
    if isinstance(thing, tuple) and len(thing) == 2 and all(isinstance(one, int) for one in thing):
        # Of a fraction: another number in it may well be good, so only what is none.
        top, bottom = thing
        return [(top, True), (True, bottom), (top, str(bottom)), (None, bottom), (2 * top, 2 * bottom), (-top, -bottom),
                (top, 0), (top,), (top, bottom, 1), [top, bottom], f"{top}/{bottom}", Fraction(top, bottom), top, None]
    if isinstance(thing, str):
        return [thing + " ", thing.upper(), thing[:-1], "", thing.encode(), [thing], (thing,), 0, None, True, "paper"]
    if isinstance(thing, int):
        return [True, False, -1, 100, str(thing), (thing,), [thing], None]
    found = things_of_every_kind()
    if isinstance(thing, (tuple, list)):
        other = list if isinstance(thing, tuple) else tuple
        found += [other(thing), dict(enumerate(thing)), thing + type(thing)([None])]
        if shorter or isinstance(thing, tuple):
            found.append(thing[:-1])
        for at, one in enumerate(thing):
            for wrong in spoilt(one, shorter):
                found.append(type(thing)([*thing[:at], wrong, *thing[at + 1:]]))
    return [one for one in found if repr(one) != repr(thing)]


def nudged(thing):
    """Copies of a thing with one fraction in it a little greater, or less, or nought."""
    if isinstance(thing, tuple) and len(thing) == 2 and all(isinstance(one, int) for one in thing):
        return [part(frac(thing) + more) for more in (MINUTE, -MINUTE, 1, -frac(thing)) if more]
    found = []
    if isinstance(thing, (tuple, list)):
        for at, one in enumerate(thing):
            found.extend(type(thing)([*thing[:at], other, *thing[at + 1:]]) for other in nudged(one))
    return found


class Looking(Asking):
    """Asks whether things are let by."""

    def never_lets(self, lets, *wrong):
        """Each of the things is told to be none, False and nothing else."""
        for thing in wrong:
            self.assertIs(lets(thing), False, repr(thing))

    def lets_no_spoilt_one(self, lets, good, shorter=True):
        """The good thing is let by, no copy of it that is spoilt in one place."""
        self.assertIs(lets(good), True)
        self.never_lets(lets, *spoilt(good, shorter))
