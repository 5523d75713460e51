"""Promise 5.3: by how much starts may slip, alone and together."""

import unittest

from hurryprice.nets import look_at_net
from hurryprice.plans import first_broken
from hurryprice.slips import slips_of
from hurryprice.starts import earliest, timed
from tests.asking import Asking, chance, frac, part, steps, straight
from tests.samples import MINUTE, net_around, reckoned_starts

WORKS = [("a", straight((2, 0))), ("b", straight((1, 0))), ("c", straight((3, 0)))]
ROW = (WORKS, [(0, 1, (1, 1)), (1, 2, (0, 1))], [], [])


def at(*starts):
    return [(part(start), part(time)) for start, time in starts]


class TestSlips(Asking):
    def slips(self, net, plan, whole, *slips):
        self.assertIsNone(look_at_net(net))
        self.assertIsNone(first_broken(net, plan, part(whole)))
        told = self.asked(slips_of, net, plan, part(whole))
        self.assertEqual(told, [(part(alone), part(together)) for alone, together in slips])

    def test_alone_and_together(self):
        self.slips(ROW, at((0, 2), (3, 1), (4, 3)), 7, (0, 0), (0, 0), (0, 0))
        self.slips(ROW, at((0, 2), (3, 1), (4, 3)), 9, (0, 2), (0, 2), (2, 2))
        self.slips(ROW, at((0, 2), ("7/2", 1), (5, 3)), 9, ("1/2", 2), ("1/2", "3/2"), (1, 1))

    def test_one_work(self):
        self.slips(([("a", straight((2, 0)))], [], [], []), at((1, 2)), "7/2", ("1/2", "1/2"))

    def test_holds_of_each_kind(self):
        plan = at((0, 2), (0, 1), (0, 3))
        self.slips((WORKS, [], [("till", 0, (3, 1)), ("by", 1, (9, 2)), ("from", 2, (-1, 1))], []), plan, 9,
                   (3, 3), ("7/2", "7/2"), (6, 6))
        self.slips((WORKS, [], [("till", 0, (3, 1)), ("till", 0, (4, 1)), ("by", 0, (4, 1))], []), plan, 9,
                   (2, 2), (8, 8), (6, 6))
        # A hold from that is just met does no harm to a later start.
        self.slips((WORKS, [], [("from", 2, (0, 1)), ("from", 0, (0, 1))], []), plan, 9, (7, 7), (8, 8), (6, 6))

    def test_a_hold_far_down_the_row_binds_together(self):
        net = (WORKS, ROW[1], [("till", 2, (5, 1))], [])
        self.slips(net, at((0, 2), (3, 1), (4, 3)), 90, (0, 1), (0, 1), (1, 1))

    def test_waits_that_lead_round(self):
        net = (WORKS, ROW[1] + [(2, 0, (-8, 1))], [], [])
        self.slips(net, at((0, 2), (3, 1), (4, 3)), 9, (0, 2), (0, 2), (1, 2))

    def test_groups_bind_no_starts(self):
        net = ([("a", steps((3, 0), (1, 1))), ("b", steps((3, 0), (1, 1)))], [(0, 1, (0, 1))], [], [[0, 1]])
        self.slips(net, at((0, 1), (1, 1)), 4, (0, 2), (2, 2))

    def test_just_so_much_breaks_nothing_and_more_does(self):
        source = chance(51)
        for number in range(150):
            net, (plan,), whole = net_around(source, ("straight", "steps"), 5, 1)
            told = self.asked(slips_of, net, plan, whole)
            self.assertEqual(len(told), len(plan))
            for work, (alone, together) in enumerate(told):
                self.assertTrue(0 <= frac(alone) <= frac(together))
                self.assertIsNone(first_broken(net, self.later(plan, work, frac(alone)), whole))
                self.assertIsNotNone(first_broken(net, self.later(plan, work, frac(alone) + MINUTE), whole))

    def later(self, plan, work, slip):
        changed = list(plan)
        changed[work] = (part(frac(plan[work][0]) + slip), plan[work][1])
        return changed

    def test_together_some_plan_has_just_so_much_and_none_has_more(self):
        source = chance(52)
        for number in range(100):
            net, (plan,), whole = net_around(source, ("straight", "steps"), 5, 1)
            times = [time for start, time in plan]
            greatest = reckoned_starts(net, times, whole)[1]
            for work, (alone, together) in enumerate(slips_of(net, plan, whole)):
                self.assertEqual(frac(together), frac(greatest[work]) - frac(plan[work][0]))
                self.assertIsNotNone(self.plan_from(net, times, whole, work, greatest[work]))
                beyond = part(frac(greatest[work]) + MINUTE)
                self.assertIsNone(self.plan_from(net, times, whole, work, beyond))

    def plan_from(self, net, times, whole, work, start):
        """A plan within the whole in which a work starts no sooner, or None."""
        works, waits, holds = timed(net, times)[:3]
        ends = [("by", number, whole) for number in range(len(works))]
        word, starts = earliest((works, waits, holds + ends + [("from", work, start)], []), times)
        if word == "ring":
            return None
        plan = list(zip(starts, times))
        self.assertIsNone(first_broken(net, plan, whole))
        return plan


if __name__ == "__main__":
    unittest.main()
