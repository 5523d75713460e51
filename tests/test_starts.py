"""Promises 5.1 and 5.2: nets with their times told, earliest and latest starts, or papers that show there are none."""

import itertools
import unittest
from fractions import Fraction

from hurryprice.claims import bars, claims_of
from hurryprice.nets import is_straight, look_at_net
from hurryprice.papers import look_at_paper
from hurryprice.plans import first_broken, price_of
from hurryprice.starts import earliest, latest, timed
from tests.asking import Asking, chance, frac, part, steps, straight
from tests.samples import MINUTE, full_net_around, net_around, reckoned_starts


def parts(*some):
    return [part(one) for one in some]


def net_of(many, waits, holds):
    """A net of so many works, each of any time from 0 to 9."""
    works = [("abcdefghij"[at], straight((9, 1), (0, 10 + at))) for at in range(many)]
    return (works, [(one, other, part(lag)) for one, other, lag in waits],
            [(kind, work, part(moment)) for kind, work, moment in holds], [])


def random_net(source, many, most_waits, most_holds, spread):
    """A net whose waits and holds may or may not leave a plan, with times for it."""
    waits, holds = [], []
    for number in range(most_waits if many > 1 else 0):
        one, other = source.sample(range(many), 2)
        waits.append((one, other, source.randint(-spread, 3)))
    for number in range(most_holds):
        kind = source.choice(["from", "till", "by"])
        moment = source.randint(-3, spread) if kind == "from" else source.randint(0, 3 * spread)
        holds.append((kind, source.randrange(many), moment))
    return net_of(many, waits, holds), parts(*[source.randint(0, 3) for number in range(many)])


class Starts(Asking):
    """Asks for starts, and sees to it that papers show what they are told for."""

    def starts(self, net, times, *starts):
        self.assertEqual(self.asked(earliest, net, times), ("starts", parts(*starts)))

    def lates(self, net, times, whole, *starts):
        self.assertEqual(self.asked(latest, net, times, part(whole)), ("starts", parts(*starts)))

    def rings(self, net, times):
        word, paper = self.asked(earliest, net, times)
        self.assertEqual(word, "ring")
        self.shows_ring(net, times, paper)
        for whole in (-3, 0, 2, 999):
            word, paper = self.asked(latest, net, times, part(whole))
            self.assertEqual(word, "bar")
            self.shows_ring(net, times, paper)
            self.assertIs(bars(timed(net, times), paper, part(whole)), True)

    def shows_ring(self, net, times, paper):
        told = timed(net, times)
        self.assertIsNone(look_at_paper(told, paper))
        price, rate, length = claims_of(told, paper)
        self.assertEqual(rate, (0, 1))
        self.assertGreater(frac(length), 0)

    def bars(self, net, times, whole):
        word, paper = self.asked(latest, net, times, part(whole))
        self.assertEqual(word, "bar")
        self.assertIsNone(look_at_paper(timed(net, times), paper))
        self.assertIs(bars(timed(net, times), paper, part(whole)), True)


class TestTimed(Asking):
    def test_offers_of_one_corner_and_no_groups(self):
        works = [("a", straight((4, 0), (2, 6))), ("b", steps((3, 1), (1, 9))), ("c", steps((5, 0), (2, 4)))]
        waits, holds = [(0, 1, (-1, 2))], [("by", 2, (9, 1)), ("from", 0, (-1, 1))]
        net = (works, waits, holds, [[1, 2]])
        made = self.asked(timed, net, parts("5/2", 1, 5))
        fixed = [("a", straight(("5/2", "9/2"))), ("b", straight((1, 9))), ("c", straight((5, 0)))]
        self.assertEqual(made, (fixed, waits, holds, []))
        self.assertIsNone(look_at_net(made))
        self.assertIs(is_straight(made), True)

    def test_lists_of_its_own_though_those_handed_in_are_shared(self):
        nothing, offer = [], straight((4, 0))
        shared = ([("a", offer), ("b", offer)], nothing, nothing, nothing)
        self.watch_lists(timed(shared, parts(4, 4)), shared)

    def test_it_costs_the_same(self):
        source = chance(41)
        for number in range(60):
            net, (plan,), whole = net_around(source, ("straight", "steps"), 4, 1)
            made = self.asked(timed, net, [time for start, time in plan])
            self.assertEqual(price_of(made, plan), price_of(net, plan))
            self.assertIsNone(first_broken(made, plan, whole))


class TestEarliest(Starts):
    def test_without_waits_and_holds(self):
        self.starts(net_of(3, [], []), parts(1, 2, 3), 0, 0, 0)

    def test_waits(self):
        net = net_of(3, [(0, 1, "1/2"), (1, 2, 0)], [])
        self.starts(net, parts(1, 2, 3), 0, "3/2", "7/2")
        self.starts(net, parts(0, 0, 0), 0, "1/2", "1/2")

    def test_a_wait_below_nought(self):
        self.starts(net_of(2, [(0, 1, -2)], []), parts(5, 1), 0, 3)
        self.starts(net_of(2, [(0, 1, -7)], []), parts(5, 1), 0, 0)
        self.starts(net_of(2, [(1, 0, "-1/3")], []), parts(5, 1), "2/3", 0)

    def test_several_between_the_same_two(self):
        self.starts(net_of(2, [(0, 1, 1), (0, 1, 3), (0, 1, -9), (0, 1, 2)], []), parts(2, 0), 0, 5)

    def test_works_are_not_gone_through_in_the_order_of_their_numbers(self):
        waits = [(3, 2, 1), (2, 1, 1), (1, 0, 1), (4, 3, 1)]
        self.starts(net_of(5, waits, []), parts(1, 1, 1, 1, 1), 8, 6, 4, 2, 0)

    def test_round_to_just_nought(self):
        net = net_of(3, [(0, 1, 1), (1, 2, -2), (2, 0, -5)], [("from", 1, 7)])
        self.starts(net, parts(1, 2, 3), 5, 7, 7)
        self.rings(net, [part(1 + MINUTE), (2, 1), (3, 1)])
        self.starts(net, [part(1 - MINUTE), (2, 1), (3, 1)], 5, 7, 7)

    def test_round_with_slack(self):
        self.starts(net_of(2, [(0, 1, 2), (1, 0, -9)], [("from", 1, 6)]), parts(1, 1), 0, 6)
        self.starts(net_of(2, [(0, 1, 2), (1, 0, -9)], [("from", 1, 16)]), parts(1, 1), 8, 16)

    def test_holds_from(self):
        net = net_of(2, [(0, 1, 0)], [("from", 0, "3/2"), ("from", 0, 1), ("from", 1, -4)])
        self.starts(net, parts(1, 1), "3/2", "5/2")
        self.starts(net_of(1, [], [("from", 0, -4)]), parts(1), 0)

    def test_holds_till_and_by_just_met(self):
        net = net_of(2, [(0, 1, 1)], [("till", 1, 3), ("by", 1, 5), ("till", 0, 0), ("by", 0, 2)])
        self.starts(net, parts(2, 2), 0, 3)
        self.rings(net, [part(2 + MINUTE), (2, 1)])
        self.rings(net, [(2, 1), part(2 + MINUTE)])

    def test_a_ring_of_waits_alone(self):
        self.rings(net_of(2, [(0, 1, 0), (1, 0, 0)], []), parts(0, 1))
        self.starts(net_of(2, [(0, 1, 0), (1, 0, 0)], []), parts(0, 0), 0, 0)
        self.rings(net_of(4, [(0, 1, 1), (1, 2, -9), (2, 3, 1), (3, 1, "17/2"), (3, 0, -90)], []), parts(0, 0, 0, 0))

    def test_a_ring_away_from_where_it_pushes(self):
        # Works 2 and 3 are pushed by the ring of 0 and 1, without being in it.
        net = net_of(4, [(0, 1, 1), (1, 0, 1), (1, 2, 5), (2, 3, 5), (0, 3, 9)], [])
        word, paper = earliest(net, parts(1, 1, 1, 1))
        self.assertEqual({arc for arc, amount in paper}, {("wait", 0), ("wait", 1)})
        self.rings(net, parts(1, 1, 1, 1))

    def test_a_ring_through_holds(self):
        self.rings(net_of(1, [], [("from", 0, 3), ("till", 0, 2)]), parts(0))
        self.rings(net_of(1, [], [("till", 0, "-1/2")]), parts(0))
        self.rings(net_of(1, [], [("by", 0, 1)]), parts(2))
        self.rings(net_of(1, [], [("from", 0, 1), ("by", 0, 2)]), parts("5/4"))
        self.rings(net_of(2, [(0, 1, 1)], [("from", 0, 1), ("till", 1, 2)]), parts(1, 0))
        self.rings(net_of(2, [(0, 1, 1)], [("from", 0, 1), ("by", 1, 3)]), parts(0, 2))

    def test_groups_are_not_looked_at(self):
        works = [("a", steps((3, 0), (1, 1))), ("b", steps((3, 0), (1, 1)))]
        self.starts((works, [(0, 1, (0, 1))], [], [[0, 1]]), parts(3, 1), 0, 3)


class TestLatest(Starts):
    def test_without_waits_and_holds(self):
        self.lates(net_of(3, [], []), parts(1, 2, 3), 4, 3, 2, 1)
        self.lates(net_of(1, [], []), parts(0), 0, 0)

    def test_waits(self):
        net = net_of(3, [(0, 1, "1/2"), (1, 2, 0)], [])
        self.lates(net, parts(1, 2, 3), 10, "7/2", 5, 7)
        self.lates(net, parts(1, 2, 3), "13/2", 0, "3/2", "7/2")
        self.bars(net, parts(1, 2, 3), Fraction(13, 2) - MINUTE)

    def test_waits_below_nought_and_several(self):
        self.lates(net_of(2, [(0, 1, -2), (0, 1, -7), (0, 1, -3)], []), parts(5, 1), 6, 1, 5)
        self.lates(net_of(2, [(0, 1, -7)], []), parts(5, 1), 6, 1, 5)

    def test_round_to_just_nought(self):
        net = net_of(3, [(0, 1, 1), (1, 2, -2), (2, 0, -5)], [("till", 2, 4)])
        self.lates(net, parts(1, 2, 3), 100, 2, 4, 4)
        self.lates(net, parts(1, 2, 3), 6, 1, 3, 3)

    def test_holds_of_each_kind(self):
        net = net_of(2, [(0, 1, 0)], [("till", 1, 5), ("by", 0, 4), ("from", 0, 2), ("by", 1, 9)])
        self.lates(net, parts(1, 1), 20, 3, 5)
        self.rings(net, parts(2, 6))
        self.lates(net, parts(1, 1), "9/2", "5/2", "7/2")
        self.bars(net, parts(1, 1), 4 - MINUTE)
        self.lates(net, parts(1, 1), 4, 2, 3)

    def test_holds_alone_bind(self):
        self.lates(net_of(1, [], [("till", 0, 5), ("till", 0, 7)]), parts(1), 20, 5)
        self.lates(net_of(1, [], [("by", 0, 5), ("by", 0, 7)]), parts(1), 20, 4)

    def test_wholes_that_are_barred(self):
        self.bars(net_of(1, [], []), parts(0), -MINUTE)
        self.bars(net_of(1, [], []), parts(3), Fraction(3) - MINUTE)
        self.bars(net_of(1, [], [("from", 0, 5)]), parts(3), 7)
        self.bars(net_of(2, [(1, 0, 2)], []), parts(3, 1), 5)
        self.bars(net_of(2, [(0, 1, -5), (1, 0, 2)], []), parts(3, 1), 5)


class TestAll(Starts):
    def held(self, net, times, whole):
        """Holds both against starts that are reckoned in another way; tells whether there are earliest, latest ones."""
        least, most = reckoned_starts(net, times, None), reckoned_starts(net, times, whole)
        if least is None:
            self.rings(net, times)
        else:
            self.assertEqual(self.asked(earliest, net, times), ("starts", least[0]))
            self.assertIsNone(first_broken(timed(net, times), list(zip(least[0], times)), None))
        if most is None:
            self.bars(net, times, frac(whole))
        else:
            self.assertEqual(self.asked(latest, net, times, whole), ("starts", most[1]))
            self.assertIsNone(first_broken(timed(net, times), list(zip(most[1], times)), whole))
        return (least is None, most is None)

    def test_random_nets(self):
        source = chance(42)
        seen = []
        for number in range(250):
            net, times = random_net(source, source.randint(1, 6), source.randint(0, 9), source.randint(0, 4), 8)
            seen.append(self.held(net, times, part(source.randint(0, 25))))
        self.assertTrue(min(seen.count((False, False)), seen.count((False, True)), seen.count((True, True))) > 20)

    def test_nets_around_plans(self):
        source = chance(43)
        for number in range(100):
            net, (plan,), whole = net_around(source, ("straight", "steps"), 6, 1)
            times = [time for start, time in plan]
            self.assertEqual(self.held(net, times, whole), (False, False))
            rows = zip(earliest(net, times)[1], plan, latest(net, times, whole)[1])
            for least, (start, time), most in rows:
                self.assertTrue(frac(least) <= frac(start) <= frac(most))

    def test_nets_at_their_bounds(self):
        source = chance(44)
        seen = []
        for number in range(12):
            net, (plan,), whole = full_net_around(source, ("straight", "steps"), (10, 40, 40), 1)
            self.assertIsNone(look_at_net((net[0], net[1], net[2], [])))
            times = [time for start, time in plan]
            self.assertEqual(self.held(net, times, whole), (False, False))
            # A little longer, one work and then another one breaks what the plan just kept.
            longer = [part(frac(time) + MINUTE) if work == number % 10 else time for work, time in enumerate(times)]
            free = ([(name, straight((999, 0), (0, 1))) for name, offer in net[0]], net[1], net[2], [])
            seen.append(self.held(free, longer, whole))
            seen.append(self.held(free, times, part(frac(earliest(net, times)[1][number % 10]) / 2)))
            seen.append(self.held(*random_net(source, 10, 40, 40, 12), whole))
        self.assertLessEqual({(False, True), (True, True)}, set(seen))

    def test_a_long_row_at_the_bounds(self):
        waits = [(at, at - 1, "1/3") for at in range(1, 10)] * 4 + [(0, 9, -13)] * 4
        holds = [("from", 9, at) for at in range(-19, 1)] + [("by", 0, 13 + at) for at in range(20)]
        net = net_of(10, waits, holds)
        self.assertIsNone(look_at_net(net))
        self.assertEqual((len(waits), len(holds)), (40, 40))
        times = parts(*[1 for work in range(10)])
        self.assertEqual(self.held(net, times, (13, 1)), (False, False))
        self.assertEqual(self.held(net, times, part(13 - MINUTE)), (False, True))
        waits[-1] = (0, 9, -13 + MINUTE)
        self.assertEqual(self.held(net_of(10, waits, []), times, (13, 1)), (True, True))

    def test_every_plan_of_small_nets(self):
        # Of whole numbers alone the least and the greatest starts are whole, so all plans can be gone through.
        source = chance(45)
        for number in range(60):
            net, times = random_net(source, 2, source.randint(0, 3), source.randint(0, 3), 3)
            fixed, whole = timed(net, times), (7, 1)
            plans = [list(zip(parts(*starts), times)) for starts in itertools.product(range(8), repeat=2)]
            kept = [[frac(start) for start, time in plan] for plan in plans if first_broken(fixed, plan, whole) is None]
            if not kept:
                self.bars(net, times, 7)
                continue
            self.starts(net, times, *[min(starts[work] for starts in kept) for work in range(2)])
            self.lates(net, times, 7, *[max(starts[work] for starts in kept) for work in range(2)])


if __name__ == "__main__":
    unittest.main()
