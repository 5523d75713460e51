"""Promises 8.4 to 8.6 and 0.4 (c): the least cost with a toll, savings looked at and told; papers mixed and raised."""

import unittest
from fractions import Fraction

from hurryprice.claims import claims_of
from hurryprice.errors import NotStraight
from hurryprice.papers import look_at_paper
from hurryprice.plans import first_broken, price_of
from hurryprice.shapes import price_at, shape_of
from hurryprice.stairs import stair_of
from hurryprice.tolls import least_cost, lets_saving, mixed_paper, raised_paper, saving_of
from tests.asking import Asking, chance, frac, part, steps, straight, things_of_every_kind
from tests.samples import MINUTE, net_around, random_paper
from tests.stairrules import ALONE, FIXED, ROW, Looking, nudged, planned_net
from tests.test_papers import ALONG, NET, paper_of
from tests.test_purses import STEPS
from tests.test_shapes import THREE, shape


def keeps_saving_rules(net, toll, thing):
    """Tells whether all that 8.5 says is so, of a thing of a saving's form."""
    whole, cost, plan, paper = thing
    if any(frac(time) < 0 for start, time in plan) or first_broken(net, plan, whole) is not None:
        return False
    price, rate, length = claims_of(net, paper)
    return frac(price_of(net, plan)) + frac(toll) * frac(whole) == frac(cost) and (price, rate) == (cost, toll)


class TestLeastCost(Asking):
    def costs(self, some, *rows):
        for toll, whole, cost in rows:
            self.assertEqual(self.asked(least_cost, some, part(toll)), (part(whole), part(cost)))

    def test_nought_rates_of_pieces_between_and_above(self):
        # The pieces fall by 4 and by 3: at just these tolls the lesser whole is told.
        self.costs(THREE, (0, "15/2", 1), (1, "15/2", "17/2"), (3 - MINUTE, "15/2", 1 + (3 - MINUTE) * Fraction(15, 2)),
                   (3, "11/2", "47/2"), ("7/2", "11/2", "105/4"), (4, "7/2", 29),
                   (4 + MINUTE, "7/2", 29 + MINUTE * 7 / 2), (100, "7/2", 365))

    def test_one_bend(self):
        self.costs(shape((5, 2)), (0, 5, 2), ("1/3", 5, "11/3"), (9, 5, 47))
        self.costs(shape((0, 0)), (0, 0, 0), (9, 0, 0))

    def test_no_whole_costs_less(self):
        source = chance(85)
        for number in range(60):
            some = shape_of(stair_of(planned_net(source, 4)))
            toll = part(Fraction(source.randint(0, 30), source.randint(1, 5)))
            whole, cost = self.asked(least_cost, some, toll)
            wholes = [frac(bend[0]) for bend in some]
            wholes += [(one + other) / 2 for one, other in zip(wholes, wholes[1:])] + [wholes[-1] + 1, frac(whole)]
            costs = [(frac(price_at(some, part(one))) + frac(toll) * one, one) for one in wholes]
            self.assertEqual(min(costs), (frac(cost), frac(whole)))


class Savings(Looking):
    def lets(self, net, toll):
        return lambda thing: lets_saving(net, part(toll), thing)

    def saving(self, net, stair, toll):
        """The told saving, let by, and by the rules one by one."""
        told = self.asked(saving_of, net, stair, part(toll))
        self.assertIs(self.asked(lets_saving, net, part(toll), told), True)
        self.assertTrue(keeps_saving_rules(net, part(toll), told))
        self.assertEqual(told[:2], least_cost(shape_of(stair), part(toll)))
        return told


class TestLetsSaving(Savings):
    def test_things_of_every_kind(self):
        for net, toll in ((ROW, 0), (ROW, 3), (FIXED, 1), (STEPS, 2)):
            self.never_lets(self.lets(net, toll), *things_of_every_kind())
            self.never_lets(self.lets(net, toll), ((1, 1), (1, 1), [], []), (None, None, None, None))

    def test_good_ones_spoilt_in_one_place(self):
        for net, tolls in ((ROW, (0, 2, 3, 4, 5)), (FIXED, (0, 1)), (ALONE, (0, "1/2", 9))):
            for toll in tolls:
                self.lets_no_spoilt_one(self.lets(net, toll), saving_of(net, stair_of(net), part(toll)))

    def test_numbers_nudged_in_one_place(self):
        seen = []
        for net, tolls in ((ROW, (0, 2, 3, 5)), (FIXED, (0, 2)), (planned_net(chance(86), 4), (0, 1, 50))):
            for toll in tolls:
                for thing in nudged(saving_of(net, stair_of(net), part(toll))):
                    truth = self.is_paper(net, thing[3]) and keeps_saving_rules(net, part(toll), thing)
                    self.assertIs(lets_saving(net, part(toll), thing), truth, repr(thing))
                    seen.append(truth)
        self.assertGreater(seen.count(False), 50)

    def is_paper(self, net, thing):
        try:
            return look_at_paper(net, thing) is None
        except ValueError:
            return False

    def test_another_toll(self):
        for mine in (0, 2, 3, 4, 9):
            told = saving_of(ROW, stair_of(ROW), part(mine))
            for toll in (0, 2, 3, 4, 9, mine + MINUTE):
                self.assertIs(lets_saving(ROW, part(toll), told), toll == mine)

    def test_costs_and_plans_that_are_not_so(self):
        whole, cost, plan, paper = saving_of(ROW, stair_of(ROW), (2, 1))
        self.assertEqual((whole, cost), ((15, 2), (16, 1)))
        late = [plan[0], (part(frac(plan[1][0]) + MINUTE), plan[1][1])]
        for wrong in (late, plan[:1], plan[::-1], plan + plan[:1]):
            self.never_lets(self.lets(ROW, 2), (whole, cost, wrong, paper))
        # A later whole with the cost that goes with it: the plan is within, but the paper's price isn't the cost.
        self.never_lets(self.lets(ROW, 2), ((8, 1), (17, 1), plan, paper), ((8, 1), cost, plan, paper))
        self.never_lets(self.lets(ROW, 2), (whole, cost, plan, []), (whole, cost, plan, stair_of(ROW)[2][1]))

    def test_a_paper_of_just_the_cost_but_another_rate(self):
        net = (FIXED[0], [], [("by", 0, (10, 1))], [])
        plan, paper = [((0, 1), (5, 1))], paper_of(("start", 0, 3), ("hold", 0, 1), ("end", 0, 2))
        self.assertEqual(claims_of(net, paper)[:2], ((7, 1), (2, 1)))
        self.never_lets(self.lets(net, 1), ((5, 1), (7, 1), plan, paper))
        self.assertIs(lets_saving(net, (1, 1), ((5, 1), (7, 1), plan, paper_of(("start", 0, 1), ("end", 0, 1)))), True)

    def test_a_toll_of_nought_at_a_later_whole(self):
        # No whole is dearer then, so any that the plan is within may be told by others.
        whole, cost, plan, paper = saving_of(ROW, stair_of(ROW), (0, 1))
        self.assertIs(lets_saving(ROW, (0, 1), ((99, 1), cost, plan, paper)), True)
        self.never_lets(self.lets(ROW, 0), (part(frac(whole) - MINUTE), cost, plan, paper))

    def test_nets_by_steps_and_groups(self):
        paper = paper_of(("start", 0, 3), ("wait", 0, 3), ("end", 1, 3))
        quick, long = [((0, 1), (2, 1)), ((3, 1), (1, 1))], [((0, 1), (4, 1)), ((5, 1), (3, 1))]
        free = (*STEPS[:3], [])
        mixed = [((0, 1), (2, 1)), ((3, 1), (3, 1))]
        self.assertEqual(claims_of(STEPS, paper)[0], (21, 1))
        self.assertIs(self.asked(lets_saving, free, (3, 1), ((6, 1), (21, 1), mixed, paper)), True)
        self.never_lets(self.lets(STEPS, 3), ((6, 1), (21, 1), mixed, paper), ((4, 1), (24, 1), quick, paper),
                        ((8, 1), (24, 1), long, paper))

    def test_no_plan_costs_less_with_the_toll(self):
        source = chance(87)
        seen = 0
        for number in range(40):
            net = planned_net(source, 3)
            toll = part(Fraction(source.randint(0, 20), source.randint(1, 3)))
            whole, cost, plan, paper = saving_of(net, stair_of(net), toll)
            for other in [random_paper(source, net) for turn in range(20)] + [paper]:
                price, rate, length = claims_of(net, other)
                if rate == toll:
                    self.assertLessEqual(frac(price), frac(cost))
                    self.assertIs(lets_saving(net, toll, (whole, cost, plan, other)), price == cost)
                    seen += 1
        self.assertGreater(seen, 40)


class TestSavingOf(Savings):
    def test_nought_rates_of_pieces_between_and_above(self):
        stair = stair_of(ROW)
        for toll in (0, MINUTE, 1, 3 - MINUTE, 3, 3 + MINUTE, "7/2", 4 - MINUTE, 4, 4 + MINUTE, 5, 100):
            self.saving(ROW, stair, toll)

    def test_one_bend(self):
        stair = stair_of(FIXED)
        for toll in (0, MINUTE, "1/3", 9):
            self.assertEqual(self.saving(FIXED, stair, toll)[0], (5, 1))

    def test_all_over_random_stairs(self):
        source = chance(88)
        for number in range(60):
            net = planned_net(source, 5)
            stair = stair_of(net)
            rates = [frac(claims_of(net, paper)[1]) for paper in stair[2]]
            for rate in rates[:2] + rates[-2:]:
                self.saving(net, stair, rate)
                self.saving(net, stair, rate + MINUTE)
                self.saving(net, stair, rate / 2 + source.randint(0, 3))
                self.saving(net, stair, max(rate - MINUTE, Fraction(0)))

    def test_a_bar_of_another_rate(self):
        word, bends, papers, bar = stair_of(ROW)
        for times in (3, "2/7"):
            other = [(arc, part(Fraction(times) * frac(amount))) for arc, amount in reversed(bar)]
            for toll in (0, 4, 5, 100):
                self.saving(ROW, (word, bends, papers, other), toll)

    def test_not_straight(self):
        net = ([("a", steps((6, 1), (4, 3), (3, 7)))], [], [], [])
        for toll in (0, 1, 9):
            self.refused(NotStraight, saving_of, net, stair_of(ALONE), part(toll))
        self.refused(NotStraight, saving_of, (net[0] + [("b", straight((1, 0)))], [], [], []), stair_of(ALONE), (1, 1))


def reckoned(one, other, first, second):
    """The paper of so many times the one's amounts and the other's, in order."""
    amounts = {}
    for paper, many in ((one, first), (other, second)):
        for arc, amount in paper:
            amounts[arc] = amounts.get(arc, 0) + many * frac(amount)
    words = ["start", "end", "wait", "hold"]
    arcs = sorted(amounts, key=lambda arc: (words.index(arc[0]), arc[1]))
    return [(arc, part(amounts[arc])) for arc in arcs if amounts[arc] != 0]


class TestPapersMixedAndRaised(Asking):
    def test_mixed(self):
        other = paper_of(("start", 0, 3), ("hold", 4, 1), ("end", 0, 2))
        made = self.asked(mixed_paper, ALONG, other, (1, 3))
        self.assertEqual(made, paper_of(("start", 0, "4/3"), ("end", 0, "2/3"), ("end", 2, "1/3"), ("wait", 0, "2/9"),
                                        ("wait", 1, "1/3"), ("wait", 3, "1/9"), ("hold", 4, "1/3")))

    def test_shares_of_nought_and_one_leave_one_out(self):
        other = paper_of(("hold", 4, 1), ("start", 0, 3), ("end", 0, 2))
        self.assertEqual(self.asked(mixed_paper, ALONG, other, (0, 1)), reckoned(ALONG, [], 1, 0))
        self.assertEqual(self.asked(mixed_paper, ALONG, other, (1, 1)),
                         paper_of(("start", 0, 3), ("end", 0, 2), ("hold", 4, 1)))
        self.assertEqual(self.asked(mixed_paper, [], [], (1, 2)), [])
        self.assertEqual(self.asked(mixed_paper, ALONG, [], (1, 1)), [])
        self.assertEqual(self.asked(mixed_paper, [], ALONG, (0, 1)), [])

    def test_raised(self):
        one, other = paper_of(("end", 1, 4), ("start", 1, 4)), paper_of(("end", 1, 1), ("hold", 3, 1))
        self.assertEqual(self.asked(raised_paper, one, other, (3, 2)),
                         paper_of(("start", 1, 4), ("end", 1, "11/2"), ("hold", 3, "3/2")))
        self.assertEqual(self.asked(raised_paper, one, other, (0, 1)), paper_of(("start", 1, 4), ("end", 1, 4)))
        self.assertEqual(self.asked(raised_paper, [], [], (7, 1)), [])
        self.assertEqual(self.asked(raised_paper, [], other, (2, 1)), paper_of(("end", 1, 2), ("hold", 3, 2)))

    def test_numbers_are_ordered_as_numbers(self):
        paper = paper_of(("wait", 10, 1), ("wait", 2, 1), ("hold", 9, 1), ("hold", 30, 1), ("end", 1, 1),
                         ("start", 1, 1))
        self.assertEqual(self.asked(raised_paper, paper, [], (1, 1)), [paper[at] for at in (5, 4, 1, 0, 2, 3)])

    def test_claims_of_what_is_made(self):
        source = chance(89)
        for number in range(150):
            net, plans, whole = net_around(source, ("straight", "steps"), 4, 1)
            one, other = random_paper(source, net), random_paper(source, net)
            share = Fraction(source.randint(0, 6), 6)
            self.mixed_rightly(net, one, other, share)
            self.raised_rightly(net, one, other, 5 * share)

    def mixed_rightly(self, net, one, other, share):
        made = self.asked(mixed_paper, one, other, part(share))
        self.assertEqual(made, reckoned(one, other, 1 - share, share))
        (price, rate, length), ones, others = [[frac(claim) for claim in claims_of(net, paper)]
                                               for paper in (made, one, other)]
        mixed = [mine + share * (theirs - mine) for mine, theirs in zip(ones, others)]
        self.assertEqual([rate, length], mixed[1:])
        self.assertGreaterEqual(price, mixed[0])

    def raised_rightly(self, net, one, other, many):
        made = self.asked(raised_paper, one, other, part(many))
        self.assertEqual(made, reckoned(one, other, 1, many))
        (price, rate, length), ones, others = [[frac(claim) for claim in claims_of(net, paper)]
                                               for paper in (made, one, other)]
        self.assertEqual([rate, length], [mine + many * theirs for mine, theirs in zip(ones, others)][1:])
        self.assertGreaterEqual(price, ones[0] + many * others[2])

    def test_papers_of_the_net_of_all_kinds_of_arcs(self):
        self.mixed_rightly(NET, ALONG, paper_of(("hold", 0, 3), ("hold", 4, 3)), Fraction(2, 7))
        self.raised_rightly(NET, ALONG, paper_of(("start", 2, 5), ("hold", 2, 5)), Fraction(2, 7))


if __name__ == "__main__":
    unittest.main()
