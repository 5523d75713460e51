"""Promises 9.1 to 9.3: nets beside and behind one another, turned, scaled; plans likewise."""

import unittest
from fractions import Fraction

from hurryprice.errors import NoJoin
from hurryprice.joins import (net_scaled, net_turned, nets_behind, nets_beside, plan_later, plan_scaled, plan_turned,
                              plans_beside)
from hurryprice.nets import look_at_net
from hurryprice.plans import first_broken, price_of, whole_of
from tests.asking import Asking, chance, frac, part, steps, straight
from tests.samples import net_around

ONE = (
    [("a", straight((4, 0), (2, 6))), ("b", steps((3, 1), (1, 9))), ("c", steps((5, 0), (2, "1/2")))],
    [(0, 1, (1, 2)), (1, 2, (-1, 1))],
    [("from", 0, (1, 1)), ("by", 2, (50, 1))],
    [[1, 2]],
)
OTHER = (
    [("d", steps((7, 0), (6, 2))), ("e", straight((2, 3))), ("f", steps((2, 0), (1, 1)))],
    [(1, 0, (0, 1)), (0, 2, (5, 3)), (2, 1, (-40, 1))],
    [("till", 1, (30, 1))],
    [[2, 0]],
)
BARE = (OTHER[0], OTHER[1], [], OTHER[3])


def renamed(net):
    """The net with names of its works that the sample nets haven't."""
    return ([("z" + name, offer) for name, offer in net[0]], net[1], net[2], net[3])


def row_net(names, waits, holds=0):
    """A net of such works, and of so many waits and holds."""
    works = [(name, straight((2, 0), (1, 1))) for name in names]
    return (works, [(0, 1, (-1, 1))] * waits, [("from", 0, (0, 1))] * holds, [])


class TestNetsBeside(Asking):
    def test_numbers_so_many_greater(self):
        joined = self.asked(nets_beside, ONE, OTHER)
        waits = ONE[1] + [(4, 3, (0, 1)), (3, 5, (5, 3)), (5, 4, (-40, 1))]
        self.assertEqual(joined, (ONE[0] + OTHER[0], waits, ONE[2] + [("till", 4, (30, 1))], [[1, 2], [5, 3]]))
        self.assertIsNone(look_at_net(joined))

    def test_the_other_way_about(self):
        joined = self.asked(nets_beside, OTHER, ONE)
        self.assertEqual(joined[1], OTHER[1] + [(3, 4, (1, 2)), (4, 5, (-1, 1))])
        self.assertEqual(joined[2:], (OTHER[2] + [("from", 3, (1, 1)), ("by", 5, (50, 1))], [[2, 0], [4, 5]]))

    def test_a_name_in_both(self):
        self.refused(NoJoin, nets_beside, ONE, ONE)
        self.refused(NoJoin, nets_beside, ONE, (OTHER[0][:2] + ONE[0][2:], [], [], []))

    def test_the_most_works_and_one_more(self):
        self.assertEqual(len(self.asked(nets_beside, row_net("abcde", 0), row_net("fghij", 0))[0]), 10)
        self.refused(NoJoin, nets_beside, row_net("abcdef", 0), row_net("ghijk", 0))
        self.refused(NoJoin, nets_beside, row_net("abcdefghij", 0), row_net("k", 0))

    def test_the_most_waits_and_one_more(self):
        self.assertEqual(len(self.asked(nets_beside, row_net("ab", 15), row_net("cd", 25))[1]), 40)
        self.refused(NoJoin, nets_beside, row_net("ab", 16), row_net("cd", 25))

    def test_the_most_holds_and_one_more(self):
        self.assertEqual(len(self.asked(nets_beside, row_net("ab", 0, 15), row_net("cd", 0, 25))[2]), 40)
        self.refused(NoJoin, nets_beside, row_net("ab", 0, 16), row_net("cd", 0, 25))

    def test_the_most_groups_and_one_more(self):
        def grouped(names, many):
            works = [(name, steps((2, 0), (1, 1))) for name in names]
            return (works, [], [], [[2 * at, 2 * at + 1] for at in range(many)])
        joined = self.asked(nets_beside, grouped("abcd", 2), grouped("efgh", 2))
        self.assertEqual(joined[3], [[0, 1], [2, 3], [4, 5], [6, 7]])
        self.refused(NoJoin, nets_beside, grouped("abcd", 2), grouped("efghij", 3))

    def test_lists_of_its_own_though_those_handed_in_are_shared(self):
        nothing, offer = [], straight((4, 0), (2, 1))
        one = ([("a", offer), ("b", offer)], nothing, nothing, nothing)
        other = ([("c", offer)], nothing, nothing, nothing)
        for made in (nets_beside(one, other), nets_behind(one, other, (0, 1)), net_turned(one),
                     net_scaled(one, (1, 1), (1, 1))):
            self.watch_lists(made, (one, other))


class TestNetsBehind(Asking):
    def test_waits_from_each_to_each(self):
        joined = self.asked(nets_behind, ONE, BARE, (5, 7))
        beside = nets_beside(ONE, BARE)
        more = [(one, other, (5, 7)) for one in (0, 1, 2) for other in (3, 4, 5)]
        self.assertEqual(joined, (beside[0], beside[1] + more, ONE[2], beside[3]))
        self.assertIsNone(look_at_net(joined))

    def test_a_wait_of_nought_and_nets_of_one_work(self):
        joined = self.asked(nets_behind, row_net("a", 0, 1), row_net("b", 0), (0, 1))
        self.assertEqual(joined[1:], ([(0, 1, (0, 1))], [("from", 0, (0, 1))], []))

    def test_the_other_has_holds(self):
        self.refused(NoJoin, nets_behind, ONE, OTHER, (1, 1))
        self.refused(NoJoin, nets_behind, row_net("a", 0), row_net("b", 0, 1), (0, 1))
        self.assertEqual(self.asked(nets_behind, row_net("a", 0, 40), row_net("b", 0), (0, 1))[2],
                         [("from", 0, (0, 1))] * 40)

    def test_a_name_in_both(self):
        self.refused(NoJoin, nets_behind, BARE, BARE, (1, 1))

    def test_the_most_works_and_one_more(self):
        self.assertEqual(len(self.asked(nets_behind, row_net("abcde", 0), row_net("fghij", 0), (1, 1))[0]), 10)
        self.refused(NoJoin, nets_behind, row_net("abcdefghi", 0), row_net("jk", 0), (1, 1))

    def test_the_most_waits_and_one_more(self):
        self.assertEqual(len(self.asked(nets_behind, row_net("abcd", 10), row_net("efghi", 10), (1, 1))[1]), 40)
        self.refused(NoJoin, nets_behind, row_net("abcd", 11), row_net("efghi", 10), (1, 1))
        self.refused(NoJoin, nets_behind, row_net("abcd", 10), row_net("efghi", 11), (1, 1))

    def test_plans_of_both_are_plans_of_the_joined(self):
        source = chance(93)
        for number in range(60):
            one, (plan,), whole = net_around(source, ("straight", "steps"), 3, 1)
            other, (behind,), rest = net_around(source, ("straight", "steps"), 3, 1)
            both = nets_beside(one, renamed(other))
            joined = self.asked(plans_beside, plan, behind)
            latest_end = part(max(frac(whole), frac(rest)))
            self.assertIsNone(first_broken(both, joined, latest_end))
            bare = renamed((*other[:2], [], other[3]))
            wait = part(Fraction(source.randint(0, 5), 2))
            row = nets_behind(one, bare, wait)
            later = part(frac(whole) + frac(wait))
            joined = plans_beside(plan, self.asked(plan_later, behind, later))
            self.assertIsNone(first_broken(row, joined, part(frac(later) + frac(rest))))
            self.assertEqual(frac(price_of(row, joined)), frac(price_of(one, plan)) + frac(price_of(other, behind)))


class TestTurnedAndScaled(Asking):
    def test_turned(self):
        bare = (ONE[0], ONE[1] + [(0, 1, (-3, 1))], [], ONE[3])
        made = self.asked(net_turned, bare)
        self.assertEqual(made, (ONE[0], [(1, 0, (1, 2)), (2, 1, (-1, 1)), (1, 0, (-3, 1))], [], [[1, 2]]))
        self.assertEqual(self.asked(net_turned, made), bare)
        self.assertEqual(self.asked(net_turned, row_net("a", 0)), row_net("a", 0))

    def test_turned_with_holds(self):
        self.refused(NoJoin, net_turned, ONE)
        self.refused(NoJoin, net_turned, row_net("ab", 1, 1))

    def test_scaled(self):
        works = [("a", straight((6, 0), (3, 2))), ("b", steps(("9/2", "1/3"), ("3/2", 3))),
                 ("c", steps(("15/2", 0), (3, "1/6")))]
        made = self.asked(net_scaled, ONE, (3, 2), (1, 3))
        self.assertEqual(made, (works, [(0, 1, (3, 4)), (1, 2, (-3, 2))], [("from", 0, (3, 2)), ("by", 2, (75, 1))],
                                [[1, 2]]))
        self.assertIsNone(look_at_net(made))
        self.assertEqual(self.asked(net_scaled, made, (2, 3), (3, 1)), ONE)
        self.assertEqual(self.asked(net_scaled, ONE, (1, 1), (1, 1)), ONE)

    def test_plans_turned_and_scaled(self):
        source = chance(94)
        for number in range(80):
            net, (plan,), whole = net_around(source, ("straight", "steps"), 4, 1)
            span, cost = part(Fraction(source.randint(1, 9), 4)), part(Fraction(source.randint(1, 9), 5))
            made, scaled = self.asked(net_scaled, net, span, cost), self.asked(plan_scaled, plan, span)
            self.assertIsNone(first_broken(made, scaled, part(frac(span) * frac(whole))))
            self.assertEqual(frac(price_of(made, scaled)), frac(cost) * frac(price_of(net, plan)))
            self.assertEqual(frac(whole_of(scaled)), frac(span) * frac(whole_of(plan)))
            bare = (*net[:2], [], net[3])
            turned = self.asked(plan_turned, plan, whole)
            self.assertIsNone(first_broken(net_turned(bare), turned, whole))
            self.assertEqual(plan_turned(turned, whole), plan)


class TestPlans(Asking):
    PLAN = [((0, 1), (2, 1)), ((5, 2), (1, 3))]

    def test_beside(self):
        self.assertEqual(self.asked(plans_beside, self.PLAN, [((1, 1), (1, 1))]), self.PLAN + [((1, 1), (1, 1))])
        self.assertEqual(self.asked(plans_beside, self.PLAN, self.PLAN), self.PLAN + self.PLAN)

    def test_later(self):
        self.assertEqual(self.asked(plan_later, self.PLAN, (1, 2)), [((1, 2), (2, 1)), ((3, 1), (1, 3))])
        self.assertEqual(self.asked(plan_later, self.PLAN, (0, 1)), self.PLAN)

    def test_turned(self):
        self.assertEqual(self.asked(plan_turned, self.PLAN, (3, 1)), [((1, 1), (2, 1)), ((1, 6), (1, 3))])
        self.assertEqual(self.asked(plan_turned, self.PLAN, (1, 1)), [((-1, 1), (2, 1)), ((-11, 6), (1, 3))])

    def test_scaled(self):
        self.assertEqual(self.asked(plan_scaled, self.PLAN, (6, 5)), [((0, 1), (12, 5)), ((3, 1), (2, 5))])
        self.assertEqual(self.asked(plan_scaled, self.PLAN, (1, 1)), self.PLAN)


if __name__ == "__main__":
    unittest.main()
