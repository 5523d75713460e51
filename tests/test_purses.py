"""Promises 8.1 to 8.3 and 0.4 (c): the soonest whole for a purse, buyings looked at, and buyings told."""

import unittest
from fractions import Fraction

from hurryprice.claims import claimed, claims_of
from hurryprice.errors import NotStraight
from hurryprice.papers import look_at_paper
from hurryprice.plans import first_broken, price_of
from hurryprice.purses import buying_of, lets_buying, soonest_for
from hurryprice.shapes import price_at, shape_of
from hurryprice.stairs import stair_of
from tests.asking import chance, frac, part, steps, straight, things_of_every_kind
from tests.samples import MINUTE, net_around, random_paper
from tests.stairrules import ALONE, FIXED, ROW, Looking, nudged, planned_net
from tests.test_shapes import THREE, shape

# By steps, and with a group: whoever writes a buying may write it of any net.
STEPS = ([("a", steps((4, 0), (2, 3))), ("b", steps((3, 0), (1, 9)))], [(0, 1, (1, 1))], [], [[0, 1]])


def keeps_buying_rules(net, purse, thing):
    """Tells whether all that 8.2 says is so, of a thing of a buying's form."""
    price, rate, length = claims_of(net, thing[-1])
    if thing[0] == "none":
        return rate == (0, 1) and frac(price) > frac(purse)
    word, whole, plan, paper = thing
    if frac(whole) < 0 or any(frac(time) < 0 for start, time in plan) or first_broken(net, plan, whole) is not None:
        return False
    if frac(price_of(net, plan)) > frac(purse) or frac(rate) <= 0:
        return False
    return claimed(net, paper, whole) == purse or frac(length) == frac(rate) * frac(whole)


class TestSoonest(Looking):
    def soonest(self, some, *rows):
        for purse, whole in rows:
            self.assertEqual(self.asked(soonest_for, some, part(purse)), None if whole is None else part(whole))

    def test_below_every_price_at_the_bends_between_and_above(self):
        self.soonest(THREE, (0, None), (1 - MINUTE, None), (1, "15/2"), (4, "13/2"), (7, "11/2"), (9, 5), (13, 4),
                     (15, "7/2"), (15 + MINUTE, "7/2"), (10 ** 9, "7/2"))
        self.soonest(THREE, (7 + MINUTE, Fraction(11, 2) - MINUTE / 4), (7 - MINUTE, Fraction(11, 2) + MINUTE / 3))

    def test_one_bend(self):
        self.soonest(shape((5, 2)), (0, None), (2 - MINUTE, None), (2, 5), (3, 5))
        self.soonest(shape((5, 0)), (0, 5), (1, 5))

    def test_it_is_the_least_whole_that_the_purse_pays(self):
        source = chance(81)
        for number in range(60):
            some = shape_of(stair_of(planned_net(source, 4)))
            for turn in range(4):
                top = frac(some[0][1])
                purse = part(top * Fraction(source.randint(0, 12), 10))
                whole = self.asked(soonest_for, some, purse)
                if whole is None:
                    self.assertGreater(frac(some[-1][1]), frac(purse))
                    continue
                self.assertLessEqual(frac(price_at(some, whole)), frac(purse))
                sooner = price_at(some, part(frac(whole) - MINUTE))
                self.assertTrue(sooner is None or frac(sooner) > frac(purse))


class Buyings(Looking):
    def lets(self, net, purse):
        return lambda thing: lets_buying(net, part(purse), thing)

    def buying(self, net, stair, purse):
        """The told buying, let by, and by the rules one by one."""
        told = self.asked(buying_of, net, stair, part(purse))
        self.assertIs(self.asked(lets_buying, net, part(purse), told), True)
        self.assertTrue(keeps_buying_rules(net, part(purse), told))
        return told


class TestLetsBuying(Buyings):
    def test_things_of_every_kind(self):
        for net, purse in ((ROW, 0), (ROW, 9), (FIXED, 2), (STEPS, 3)):
            self.never_lets(self.lets(net, purse), *things_of_every_kind())
            self.never_lets(self.lets(net, purse), ("none",), ("bought",), ("none", None), ("bought", (9, 1), [], []))

    def test_good_ones_spoilt_in_one_place(self):
        for net, purses in ((ROW, ("1/2", 1, 9, 15, 20)), (FIXED, (0, 2, 3)), (ALONE, (0, 2, 7))):
            for purse in purses:
                self.lets_no_spoilt_one(self.lets(net, purse), buying_of(net, stair_of(net), part(purse)))

    def test_numbers_nudged_in_one_place(self):
        seen = []
        for net, purses in ((ROW, ("1/2", 1, 9, 20)), (FIXED, (0, 2)), (planned_net(chance(82), 4), (1, 5, 50))):
            for purse in purses:
                for thing in nudged(buying_of(net, stair_of(net), part(purse))):
                    truth = self.is_paper(net, thing[-1]) and keeps_buying_rules(net, part(purse), thing)
                    self.assertIs(lets_buying(net, part(purse), thing), truth, repr(thing))
                    seen.append(truth)
        self.assertGreater(min(seen.count(True), seen.count(False)), 5)

    def is_paper(self, net, thing):
        try:
            return look_at_paper(net, thing) is None
        except ValueError:
            return False

    def test_another_purse(self):
        told = buying_of(ROW, stair_of(ROW), (9, 1))
        for purse, truth in ((9, True), (9 - MINUTE, False), (9 + MINUTE, False), (20, False)):
            self.assertIs(lets_buying(ROW, part(purse), told), truth)
        # By the bar it holds for every purse that pays the plan.
        quick = buying_of(ROW, stair_of(ROW), (15, 1))
        for purse, truth in ((15 - MINUTE, False), (15, True), (16, True), (99, True)):
            self.assertIs(lets_buying(ROW, part(purse), quick), truth)
        none = buying_of(ROW, stair_of(ROW), (0, 1))
        for purse, truth in ((0, True), (1 - MINUTE, True), (1, False), (9, False)):
            self.assertIs(lets_buying(ROW, part(purse), none), truth)

    def test_plans_that_are_not_within_or_too_dear(self):
        word, whole, plan, paper = buying_of(ROW, stair_of(ROW), (9, 1))
        self.assertEqual(whole, (5, 1))
        late = [plan[0], (part(frac(plan[1][0]) + MINUTE), plan[1][1])]
        dear = [((0, 1), (2, 1)), ((5, 2), part(Fraction(5, 2) - MINUTE))]
        for wrong in (late, dear, plan[:1], plan + plan[:1], plan[::-1]):
            self.never_lets(self.lets(ROW, 9), (word, whole, wrong, paper))
        # A lesser whole, with a paper that claims the purse for it, but no plan so quick.
        self.never_lets(self.lets(ROW, 9), (word, part(5 - MINUTE), plan, paper), (word, part(5 + MINUTE), plan, paper))
        self.never_lets(self.lets(ROW, 9), ("none", paper), (word, whole, plan, []), ("none", []))

    def test_the_rate_is_above_nought_or_nought(self):
        net = (FIXED[0], [], [("from", 0, (0, 1)), ("till", 0, (0, 1))], [])
        plan, flat = [((0, 1), (5, 1))], [(("hold", 0), (2, 1)), (("hold", 1), (2, 1))]
        bar = [(("start", 0), (1, 1)), (("end", 0), (1, 1))]
        self.assertIs(lets_buying(net, (2, 1), ("bought", (5, 1), plan, bar)), True)
        self.never_lets(self.lets(net, 2), ("bought", (5, 1), plan, flat), ("bought", (5, 1), plan, []))
        self.assertIs(lets_buying(net, (1, 1), ("none", flat)), True)
        self.never_lets(self.lets(net, 1), ("none", bar))

    def test_a_whole_below_nought(self):
        # No plan is within it; the kinds ask for it besides.
        paper = [(("start", 0), (1, 1)), (("end", 0), (1, 1))]
        self.never_lets(self.lets(FIXED, 2), ("bought", (-5, 1), [((-10, 1), (5, 1))], paper))

    def test_nets_by_steps_and_groups(self):
        bar = [(("start", 0), (1, 1)), (("wait", 0), (1, 1)), (("end", 1), (1, 1))]
        quick, long = [((0, 1), (2, 1)), ((3, 1), (1, 1))], [((0, 1), (4, 1)), ((5, 1), (3, 1))]
        self.assertIs(self.asked(lets_buying, STEPS, (12, 1), ("bought", (4, 1), quick, bar)), True)
        self.never_lets(self.lets(STEPS, 11), ("bought", (4, 1), quick, bar), ("bought", (8, 1), long, bar))
        self.assertIs(lets_buying(STEPS, (0, 1), ("none", [])), False)
        unlike = [((0, 1), (2, 1)), ((3, 1), (3, 1))]
        by_claim = [(arc, (3, 2)) for arc, amount in bar]
        self.assertEqual(claimed(STEPS, by_claim, (6, 1)), (3, 1))
        self.never_lets(self.lets(STEPS, 3), ("bought", (6, 1), unlike, by_claim))
        free = (*STEPS[:3], [])
        self.assertIs(lets_buying(free, (3, 1), ("bought", (6, 1), unlike, by_claim)), True)

    def test_no_plan_keeps_the_purse_within_a_lesser_whole(self):
        source = chance(83)
        seen = 0
        for number in range(300):
            net, (plan, other), whole = net_around(source, ("straight", "steps"), 3, 2)
            paper = random_paper(source, net)
            purse = claimed(net, paper, whole)
            for whole, purse in ((whole, purse), (whole, price_of(net, plan))):
                truth = keeps_buying_rules(net, purse, ("bought", whole, plan, paper))
                self.assertIs(lets_buying(net, purse, ("bought", whole, plan, paper)), truth)
                sooner = part(frac(whole) - MINUTE)
                if truth and first_broken(net, other, sooner) is None:
                    self.assertGreater(frac(price_of(net, other)), frac(purse))
                seen += truth
        self.assertGreater(seen, 5)


class TestBuyingOf(Buyings):
    def test_purses_below_at_between_and_above_the_prices(self):
        stair = stair_of(ROW)
        for purse in (0, 1 - MINUTE):
            self.assertEqual(self.buying(ROW, stair, purse)[0], "none")
        for purse, whole in ((1, "15/2"), (4, "13/2"), (7, "11/2"), (9, 5), (15, "7/2"), (15 + MINUTE, "7/2"),
                             (99, "7/2")):
            self.assertEqual(self.buying(ROW, stair, purse)[:2], ("bought", part(whole)))

    def test_one_bend(self):
        stair = stair_of(FIXED)
        self.assertEqual(self.buying(FIXED, stair, 1)[0], "none")
        for purse in (2, 2 + MINUTE, 50):
            self.assertEqual(self.buying(FIXED, stair, purse)[:2], ("bought", (5, 1)))

    def test_all_over_random_stairs(self):
        source = chance(84)
        seen = []
        for number in range(60):
            net = planned_net(source, 5)
            stair = stair_of(net)
            some = shape_of(stair)
            for whole, price in some[:2] + some[-1:]:
                for purse in (price, part(frac(price) + source.choice([MINUTE, -MINUTE, 1])), (0, 1)):
                    told = self.buying(net, stair, frac(purse))
                    soonest = soonest_for(some, purse)
                    self.assertEqual(told[0], "none" if soonest is None else "bought")
                    self.assertTrue(soonest is None or told[1] == soonest)
                    seen.append(told[0])
        self.assertGreater(min(seen.count("none"), seen.count("bought")), 20)

    def test_papers_in_any_order(self):
        word, bends, papers, bar = stair_of(ROW)
        stair = (word, bends, [paper[::-1] for paper in papers], bar[::-1])
        for purse in (0, 1, 5, 7, 15, 20):
            self.buying(ROW, stair, purse)

    def test_not_straight(self):
        net = ([("a", steps((6, 1), (4, 3), (3, 7)))], [], [], [])
        for purse in (0, 2, 9):
            self.refused(NotStraight, buying_of, net, stair_of(ALONE), part(purse))
        self.refused(NotStraight, buying_of, (net[0] + [("b", straight((1, 0)))], [], [], []), stair_of(ALONE), (1, 1))


if __name__ == "__main__":
    unittest.main()
