"""Promises 3.1 to 3.3: the first broken wish, price and whole time, plans mixed."""

import unittest
from fractions import Fraction

from hurryprice.errors import NoTime
from hurryprice.nets import look_at_net
from hurryprice.plans import first_broken, mixed, price_of, whole_of
from tests.asking import Asking, chance, frac, part, steps, straight
from tests.samples import MINUTE, net_around

WORKS = [
    ("a", straight((4, 0), (2, 6))), ("b", steps((3, 1), (1, 9))), ("c", steps((5, 0), (2, 4))),
    ("d", straight((2, 0))), ("e", steps((2, 7), (1, 8))),
]
# All of these but the last wait and the last hold of each kind are just kept by PLAN.
WAITS = [(0, 1, (1, 2)), (1, 3, (-1, 1)), (3, 0, (-15, 2)), (2, 3, (-1, 1))]
HOLDS = [("from", 2, (1, 1)), ("till", 3, (11, 2)), ("by", 1, (13, 2)), ("from", 2, (0, 1)), ("by", 2, (7, 1))]
GROUPS = [[1, 2]]
NET = (WORKS, WAITS, HOLDS, GROUPS)
PLAN = [((0, 1), (3, 1)), ((7, 2), (3, 1)), ((1, 1), (5, 1)), ((11, 2), (2, 1)), ((0, 1), (1, 1))]
WHOLE = (15, 2)
MANY = (100, 1)


def with_step(plan, work, start=None, time=None):
    """The plan with another start or time of a work."""
    changed = list(plan)
    changed[work] = (plan[work][0] if start is None else part(start), plan[work][1] if time is None else part(time))
    return changed


class TestFirstBroken(Asking):
    def broken(self, plan, whole, wish, net=NET):
        self.assertEqual(self.asked(first_broken, net, plan, whole), wish)

    def test_none_is_broken(self):
        self.assertIsNone(look_at_net(NET))
        for whole in (WHOLE, None, (8, 1), MANY):
            self.broken(PLAN, whole, None)

    def test_a_time_that_is_not_offered(self):
        self.broken(with_step(PLAN, 0, time=2 - MINUTE), MANY, ("time", 0))
        self.broken(with_step(PLAN, 0, time=4 + MINUTE), MANY, ("time", 0))
        self.broken(with_step(PLAN, 1, time=2), None, ("time", 1))
        self.broken(with_step(PLAN, 3, time=1), MANY, ("time", 3))
        self.broken(with_step(PLAN, 4, time="3/2"), MANY, ("time", 4))
        self.broken(with_step(with_step(PLAN, 4, time=0), 2, time=0), MANY, ("time", 2))

    def test_a_group(self):
        self.broken(with_step(PLAN, 2, time=2), MANY, ("group", 0))
        self.broken(with_step(PLAN, 1, time=1), None, ("group", 0))
        self.broken(with_step(with_step(PLAN, 1, time=1), 2, time=2), None, None)
        self.broken(with_step(PLAN, 2, time=2), None, None, (WORKS, WAITS, HOLDS, []))

    def test_the_first_group_of_two_and_groups_of_three(self):
        works = [(name, steps((3, 0), (2, 1), (1, 2))) for name in "abcde"]
        net = (works, [], [], [[4, 0, 2], [3, 1]])
        for times, wish in [
            ((3, 3, 3, 3, 3), None), ((2, 1, 2, 1, 2), None), ((2, 1, 3, 1, 2), ("group", 0)),
            ((2, 1, 2, 3, 2), ("group", 1)), ((2, 1, 2, 3, 1), ("group", 0)), ((1, 1, 2, 1, 1), ("group", 0)),
        ]:
            self.broken([((0, 1), (time, 1)) for time in times], None, wish, net)

    def test_corners_are_taken_by_their_numbers(self):
        works = [("a", steps((9, 0), (5, 1))), ("b", steps((5, 0), (1, 1)))]
        net = (works, [], [], [[0, 1]])
        self.broken([((0, 1), (9, 1)), ((0, 1), (5, 1))], None, None, net)
        self.broken([((0, 1), (5, 1)), ((0, 1), (1, 1))], None, None, net)
        self.broken([((0, 1), (5, 1)), ((0, 1), (5, 1))], None, ("group", 0), net)

    def test_a_start_below_nought(self):
        free = (WORKS, [], [], [])
        for work in range(5):
            self.broken(with_step(PLAN, work, start=-MINUTE), None, ("start", work), free)
            self.broken(with_step(PLAN, work, start=0), None, None, free)
        self.broken(with_step(with_step(PLAN, 4, start=-3), 1, start=-1), WHOLE, ("start", 1), free)

    def test_a_wait_just_kept_and_not_kept_by_a_little(self):
        self.broken(with_step(PLAN, 1, start=Fraction(7, 2) - MINUTE), WHOLE, ("wait", 0))
        self.broken(with_step(PLAN, 0, time=3 + MINUTE), WHOLE, ("wait", 0))
        self.broken(with_step(PLAN, 3, start=Fraction(11, 2) - MINUTE), WHOLE, ("wait", 1))
        self.broken(with_step(with_step(PLAN, 3, start=0), 1, start=0), WHOLE, ("wait", 0))
        self.broken(PLAN, WHOLE, ("wait", 1), (WORKS, [WAITS[0], (1, 3, (-9, 10))], HOLDS, GROUPS))
        self.broken(PLAN, WHOLE, ("wait", 2), (WORKS, WAITS[:2] + [(3, 0, (-7, 1))] + WAITS[3:], HOLDS, GROUPS))

    def test_several_waits_between_the_same_two(self):
        waits = [(0, 1, (0, 1)), (0, 1, (1, 2)), (0, 1, (51, 100)), (0, 1, (9, 1))]
        self.broken(PLAN, WHOLE, ("wait", 2), (WORKS, waits, HOLDS, GROUPS))
        self.broken(PLAN, WHOLE, None, (WORKS, waits[:2], HOLDS, GROUPS))

    def test_a_hold_of_each_kind_just_met_and_not_met_by_a_little(self):
        self.broken(with_step(PLAN, 2, start=1 - MINUTE), MANY, ("hold", 0))
        late = with_step(PLAN, 3, start=Fraction(11, 2) + MINUTE)
        self.broken(late, MANY, ("hold", 1), (WORKS, WAITS[:2], HOLDS, []))
        self.broken(with_step(PLAN, 1, start=Fraction(7, 2) + MINUTE), MANY, ("hold", 2), (WORKS, WAITS[:1], HOLDS, []))
        net = (WORKS, [], HOLDS, [])
        self.broken(with_step(PLAN, 2, start=2 + MINUTE), MANY, ("hold", 4), net)
        self.broken(with_step(PLAN, 2, start=2), MANY, None, net)
        self.broken(with_step(with_step(PLAN, 3, start=6), 1, start=4), MANY, ("hold", 1), net)

    def test_a_hold_below_nought(self):
        net = (WORKS, [], [("from", 0, (-3, 1)), ("till", 0, (-1, 1))], [])
        self.broken(PLAN, None, ("hold", 1), net)
        self.broken(PLAN, None, ("hold", 0), (WORKS, [], [("by", 0, (-1, 1))], []))

    def test_the_whole(self):
        self.broken(PLAN, part(Fraction(15, 2) - MINUTE), ("whole", 3))
        self.broken(PLAN, (13, 2), ("whole", 3))
        self.broken(PLAN, (6, 1), ("whole", 1))
        self.broken(PLAN, (1, 2), ("whole", 0))
        self.broken(PLAN, (0, 1), ("whole", 0))
        self.broken(PLAN, (-4, 1), ("whole", 0))

    def test_a_work_of_no_time_ends_behind_a_whole_below_nought(self):
        net = ([("a", straight((0, 0)))], [], [], [])
        self.broken([((0, 1), (0, 1))], (0, 1), None, net)
        self.broken([((0, 1), (0, 1))], (-1, 7), ("whole", 0), net)

    def test_the_first_by_kinds_in_their_order(self):
        # Each row mends one wish more of a plan that breaks all six.
        plan = [((-1, 1), (5, 1)), ((0, 1), (1, 1)), ((0, 1), (5, 1)), ((7, 1), (2, 1)), ((90, 1), (1, 1))]
        self.broken(plan, WHOLE, ("time", 0))
        plan[0] = ((-1, 1), (3, 1))
        self.broken(plan, WHOLE, ("group", 0))
        plan[1] = ((0, 1), (3, 1))
        self.broken(plan, WHOLE, ("start", 0))
        plan[0] = ((3, 2), (3, 1))
        self.broken(plan, WHOLE, ("wait", 0))
        plan[1] = ((5, 1), (3, 1))
        self.broken(plan, WHOLE, ("hold", 0))
        plan[1:4] = [((5, 1), (1, 1)), ((1, 1), (2, 1)), ((11, 2), (2, 1))]
        self.broken(plan, WHOLE, ("whole", 4))
        self.broken(plan, None, None)

    def test_plans_around_which_nets_are_made(self):
        source = chance(11)
        for number in range(120):
            net, plans, whole = net_around(source, ("straight", "steps"), 5, 2)
            self.assertIsNone(look_at_net(net))
            for plan in plans:
                self.assertIsNone(self.asked(first_broken, net, plan, whole))
                least = max(frac(start) + frac(time) for start, time in plan)
                self.assertIsNone(first_broken(net, plan, part(least)))
                late = [at for at, (start, time) in enumerate(plan) if frac(start) + frac(time) == least]
                self.assertEqual(first_broken(net, plan, part(least - MINUTE)), ("whole", late[0]))


class TestPriceAndWhole(Asking):
    def test_price(self):
        self.assertEqual(self.asked(price_of, NET, PLAN), (12, 1))
        self.assertEqual(self.asked(price_of, NET, with_step(PLAN, 0, time="5/2")), (27, 2))
        self.assertEqual(self.asked(price_of, ([("a", straight((1, "1/3")))], [], [], []), [((-9, 1), (1, 1))]), (1, 3))

    def test_price_hangs_on_the_times_alone(self):
        plan = [((-5, 1), time) for start, time in PLAN]
        self.assertEqual(self.asked(price_of, NET, plan), (12, 1))
        self.assertEqual(self.asked(price_of, NET, with_step(PLAN, 1, time=1)), (20, 1))

    def test_price_of_a_time_that_is_not_offered_is_refused(self):
        for work, time in ((0, "9/2"), (0, 1), (1, 2), (3, 0), (4, "3/2")):
            self.refused(NoTime, price_of, NET, with_step(PLAN, work, time=time))

    def test_whole(self):
        self.assertEqual(self.asked(whole_of, PLAN), WHOLE)
        self.assertEqual(self.asked(whole_of, PLAN[:3]), (13, 2))
        self.assertEqual(self.asked(whole_of, [((1, 3), (1, 6))]), (1, 2))

    def test_whole_below_nought(self):
        self.assertEqual(self.asked(whole_of, [((-5, 1), (1, 1)), ((-9, 1), (6, 1)), ((-7, 1), (1, 2))]), (-3, 1))
        self.assertEqual(self.asked(whole_of, [((-1, 3), (0, 1))]), (-1, 3))


class TestMixed(Asking):
    def test_by_nothing_and_by_all(self):
        other = [((9, 1), (2, 1)), ((0, 1), (1, 1)), ((-1, 2), (2, 1)), ((7, 3), (2, 1)), ((4, 1), (2, 1))]
        self.assertEqual(self.asked(mixed, PLAN, other, (0, 1)), PLAN)
        self.assertEqual(self.asked(mixed, PLAN, other, (1, 1)), other)

    def test_by_a_share_between(self):
        one, other = [((0, 1), (4, 1)), ((5, 1), (1, 1))], [((3, 1), (1, 1)), ((-1, 1), (1, 2))]
        self.assertEqual(self.asked(mixed, one, other, (1, 3)), [((1, 1), (3, 1)), ((3, 1), (5, 6))])
        self.assertEqual(self.asked(mixed, other, one, (2, 3)), [((1, 1), (3, 1)), ((3, 1), (5, 6))])

    def test_a_mixed_plan_of_a_straight_net(self):
        source = chance(12)
        for number in range(80):
            net, (one, other), whole = net_around(source, ("straight",), 4, 2)
            share = Fraction(source.randint(0, 6), 6)
            plan = self.asked(mixed, one, other, part(share))
            wholes = [frac(whole_of(one)), frac(whole_of(other))]
            prices = [frac(price_of(net, one)), frac(price_of(net, other))]
            self.assertIsNone(first_broken(net, plan, part(wholes[0] + share * (wholes[1] - wholes[0]))))
            self.assertLessEqual(frac(price_of(net, plan)), prices[0] + share * (prices[1] - prices[0]))


if __name__ == "__main__":
    unittest.main()
