"""Promises 4.2 to 4.4: what papers claim and bar, that no plan costs less, and where they are tight."""

import unittest

from hurryprice.claims import bars, claimed, claims_of, is_tight
from hurryprice.plans import first_broken, price_of
from tests.asking import Asking, chance, frac, part, steps, straight
from tests.samples import MINUTE, net_around, random_paper
from tests.test_papers import ALONG, NET, paper_of

ALONE = ([("a", straight((6, 1), (4, 3), (3, 7)))], [], [], [])


def rate_paper(rate):
    """The paper of one work's start and end."""
    return paper_of(("start", 0, rate), ("end", 0, rate))


class TestClaims(Asking):
    def claims(self, net, paper, price, rate, length):
        self.assertEqual(self.asked(claims_of, net, paper), (part(price), part(rate), part(length)))

    def test_the_paper_of_nothing(self):
        self.claims(NET, [], 1, 0, 0)
        self.claims(ALONE, [], 1, 0, 0)
        self.assertEqual(self.asked(claimed, ALONE, [], (-7, 1)), (1, 1))
        for whole in ((-7, 1), (0, 1), (7, 1)):
            self.assertIs(self.asked(bars, ALONE, [], whole), False)

    def test_one_work(self):
        self.claims(ALONE, rate_paper("1/2"), 4, "1/2", "3/2")
        self.claims(ALONE, rate_paper(1), 7, 1, 3)
        self.claims(ALONE, rate_paper(2), 11, 2, 6)
        self.claims(ALONE, rate_paper(10), 37, 10, 30)

    def test_along_waits(self):
        # Weight: 1/3 * 1/2 and 1/6 * 0 and 1/2 * -1; leasts for 1/2: 2, 5/2, 1; quick times 2, 1, 2.
        self.claims(NET, ALONG, "31/6", "1/2", "13/6")

    def test_holds_of_each_kind(self):
        self.claims(NET, paper_of(("hold", 0, 3), ("end", 0, 3)), 3 + 12 + 1, 3, 3 + 6)
        self.claims(NET, paper_of(("hold", 3, 3), ("end", 1, 3)), -3 + 10, 3, -3 + 3)
        self.claims(NET, paper_of(("start", 0, 3), ("hold", 4, 1), ("end", 0, 2)), -3 + 8 + 1, 2, -3 + 4)
        self.claims(NET, paper_of(("start", 2, 5), ("hold", 2, 5)), -35 + 1 + 10, 0, -35 + 10)
        self.claims(NET, paper_of(("hold", 0, 3), ("hold", 4, 3)), 3 - 9 + 1, 0, 3 - 9)

    def test_round(self):
        self.claims(NET, paper_of(("wait", 0, 2), ("wait", 1, 2), ("wait", 2, 2)), -19 + 8 + 7 + 4, 0, -19 + 4 + 2 + 4)

    def test_rate_is_of_all_ends(self):
        paper = paper_of(("end", 1, 4), ("start", 1, 4), ("start", 2, 9), ("end", 2, 9))
        self.claims(NET, paper, 13 + 18, 13, 4 + 18)

    def test_claimed_for_a_whole(self):
        self.assertEqual(self.asked(claimed, ALONE, rate_paper(2), (0, 1)), (11, 1))
        self.assertEqual(self.asked(claimed, ALONE, rate_paper(2), (4, 1)), (3, 1))
        self.assertEqual(self.asked(claimed, ALONE, rate_paper(2), (-1, 2)), (12, 1))
        self.assertEqual(self.asked(claimed, ALONE, rate_paper(2), (100, 1)), (-189, 1))
        self.assertEqual(self.asked(claimed, NET, ALONG, (1, 3)), (5, 1))

    def test_bars_below_its_length_alone(self):
        for rate in (1, 2, "1/7"):
            self.assertIs(self.asked(bars, ALONE, rate_paper(rate), (3, 1)), False)
            self.assertIs(self.asked(bars, ALONE, rate_paper(rate), part(3 - MINUTE)), True)
            self.assertIs(self.asked(bars, ALONE, rate_paper(rate), (-3, 1)), True)
            self.assertIs(self.asked(bars, ALONE, rate_paper(rate), (9, 1)), False)

    def test_a_paper_without_ends_bars_all_or_none(self):
        for moment, truth in (((1, 1), True), ((3, 1), False), ((4, 1), False)):
            net = (ALONE[0], [], [("by", 0, moment)], [])
            for whole in ((-9, 1), (0, 1), (10 ** 9, 1)):
                self.assertIs(self.asked(bars, net, paper_of(("start", 0, 1), ("hold", 0, 1)), whole), truth)

    def test_random_papers_by_plain_sums(self):
        source = chance(31)
        for number in range(150):
            net, plans, whole = net_around(source, ("straight", "steps"), 4, 1)
            paper = random_paper(source, net)
            self.assertEqual(self.asked(claims_of, net, paper), self.reckoned(net, paper))
            price, rate, length = [frac(one) for one in self.reckoned(net, paper)]
            self.assertEqual(self.asked(claimed, net, paper, whole), part(price - rate * frac(whole)))
            self.assertIs(self.asked(bars, net, paper, whole), length > rate * frac(whole))

    def reckoned(self, net, paper):
        amounts = {arc: frac(amount) for arc, amount in paper}
        weight = sum(amounts.get(("wait", at), 0) * frac(lag) for at, (one, other, lag) in enumerate(net[1]))
        for at, (kind, work, moment) in enumerate(net[2]):
            weight += amounts.get(("hold", at), 0) * frac(moment) * (1 if kind == "from" else -1)
        price = length = weight
        for work, (name, (kind, corners)) in enumerate(net[0]):
            through = amounts.get(("end", work), 0)
            through += sum(amounts.get(("wait", at), 0) for at, wait in enumerate(net[1]) if wait[0] == work)
            through += sum(amounts.get(("hold", at), 0) for at, hold in enumerate(net[2]) if hold[:2] == ("by", work))
            price += min(frac(cost) + through * frac(time) for time, cost in corners)
            length += through * min(frac(time) for time, cost in corners)
        rate = sum(amount for (word, number), amount in amounts.items() if word == "end")
        return (part(price), part(rate), part(length))


class TestNoPlanCostsLess(Asking):
    def test_no_plan_costs_less_and_none_is_barred(self):
        source = chance(32)
        for number in range(200):
            net, plans, whole = net_around(source, ("straight", "steps"), 4, 2)
            for turn in range(4):
                paper = random_paper(source, net)
                for plan in plans:
                    self.assertIsNone(first_broken(net, plan, whole))
                    self.assertLessEqual(frac(claimed(net, paper, whole)), frac(price_of(net, plan)))
                    self.assertIs(bars(net, paper, whole), False)

    def test_the_first_whole_that_a_way_bars(self):
        net = ([("a", steps((4, 0), (2, 3))), ("b", straight((3, 0), (1, 9)))], [(0, 1, (1, 1))], [], [])
        paper = paper_of(("start", 0, 1), ("wait", 0, 1), ("end", 1, 1))
        plan = [((0, 1), (2, 1)), ((3, 1), (1, 1))]
        self.assertIsNone(first_broken(net, plan, (4, 1)))
        self.assertIs(bars(net, paper, (4, 1)), False)
        self.assertIs(bars(net, paper, part(4 - MINUTE)), True)


class TestTight(Asking):
    def tight(self, net, paper, plan, whole, truth):
        self.assertIs(self.asked(is_tight, net, paper, plan, whole), truth)

    def test_a_start_with_an_amount(self):
        one = ([("a", straight((2, 0)))], [], [("by", 0, (5, 1))], [])
        paper = paper_of(("start", 0, 1), ("end", 0, 1))
        self.tight(one, paper, [((0, 1), (2, 1))], (2, 1), True)
        self.tight(one, paper, [((1, 1), (2, 1))], (3, 1), False)
        self.tight(one, paper, [((-1, 1), (2, 1))], (1, 1), False)
        self.tight(one, [], [((1, 1), (2, 1))], (3, 1), True)

    def test_an_end_with_an_amount(self):
        one = ([("a", straight((2, 0)))], [], [], [])
        paper = paper_of(("start", 0, 1), ("end", 0, 1))
        self.tight(one, paper, [((0, 1), (2, 1))], part(2 + MINUTE), False)
        self.tight(one, paper, [((0, 1), (2, 1))], part(2 - MINUTE), False)
        self.tight(one, [], [((0, 1), (2, 1))], (3, 1), True)

    def test_a_wait_with_an_amount(self):
        net = ([("a", straight((2, 0))), ("b", straight((1, 0)))], [(0, 1, (1, 2)), (0, 1, (-1, 1))], [], [])
        paper = paper_of(("start", 0, 1), ("wait", 0, 1), ("end", 1, 1))
        self.tight(net, paper, [((0, 1), (2, 1)), ((5, 2), (1, 1))], (7, 2), True)
        self.tight(net, paper, [((0, 1), (2, 1)), ((3, 1), (1, 1))], (4, 1), False)
        self.tight(net, paper, [((0, 1), (2, 1)), ((2, 1), (1, 1))], (3, 1), False)
        other = paper_of(("start", 0, 1), ("wait", 1, 1), ("end", 1, 1))
        self.tight(net, other, [((0, 1), (2, 1)), ((5, 2), (1, 1))], (7, 2), False)
        self.tight(net, other, [((0, 1), (2, 1)), ((1, 1), (1, 1))], (2, 1), True)

    def test_holds_with_an_amount(self):
        net = ([("a", straight((2, 0)))], [], [("from", 0, (1, 1)), ("till", 0, (1, 1)), ("by", 0, (3, 1))], [])
        met, late, soon = [((1, 1), (2, 1))], [((4, 3), (2, 1))], [((2, 3), (2, 1))]
        for paper in (paper_of(("hold", 0, 2), ("hold", 1, 2)), paper_of(("hold", 0, 2), ("hold", 2, 2))):
            self.tight(net, paper, met, (9, 1), True)
            self.tight(net, paper, late, (9, 1), False)
            self.tight(net, paper, soon, (9, 1), False)
        self.tight(net, paper_of(("hold", 0, 2), ("end", 0, 2)), late, (10, 3), False)
        started = [((0, 1), (2, 1))]
        self.tight(net, paper_of(("start", 0, 2), ("hold", 1, 2)), started, (2, 1), False)
        self.tight(net, paper_of(("start", 0, 2), ("hold", 2, 2)), started, (2, 1), False)
        self.tight(net, paper_of(("start", 0, 2), ("end", 0, 2)), started, (2, 1), True)

    def test_the_least_of_each_offer(self):
        # Rates of the one work are 1 and 4: for an amount of 1 all times from 4 to 6 are least.
        for rate, times in (("1/2", [6]), (1, [6, 5, 4]), (2, [4]), (4, [4, "7/2", 3]), (9, [3])):
            for time in (6, 5, 4, "7/2", 3):
                self.tight(ALONE, rate_paper(rate), [((0, 1), part(time))], part(time), time in times)

    def test_a_work_without_an_amount_has_its_long_time(self):
        net = (ALONE[0] + [("b", steps((5, 1), (4, 2)))], [], [], [])
        for time, truth in ((5, True), (4, False)):
            self.tight(net, rate_paper(2), [((0, 1), (4, 1)), ((0, 1), (time, 1))], (4, 1), truth)
            self.tight(net, [], [((7, 1), (6, 1)), ((9, 1), (time, 1))], (0, 1), truth)

    def test_it_is_told_whatever_the_plan_keeps(self):
        net = ([("a", straight((2, 0))), ("b", straight((1, 0)))], [(0, 1, (0, 1))], [("from", 1, (9, 1))], [])
        self.tight(net, paper_of(("start", 0, 1), ("end", 0, 1)), [((0, 1), (2, 1)), ((-5, 1), (1, 1))], (2, 1), True)

    def test_tight_plans_cost_what_is_claimed_and_others_more(self):
        source = chance(33)
        seen = {True: 0, False: 0}
        for number in range(500):
            net, (plan,), whole = net_around(source, ("straight", "steps"), 3, 1)
            for paper in (self.just_kept_paper(source, net, plan, whole), random_paper(source, net)):
                truth = self.asked(is_tight, net, paper, plan, whole)
                price, claim = frac(price_of(net, plan)), frac(claimed(net, paper, whole))
                self.assertGreaterEqual(price, claim)
                self.assertIs(price == claim, truth)
                seen[truth] += paper != []
        self.assertGreater(seen[True], 30)
        self.assertGreater(seen[False], 30)

    def just_kept_paper(self, source, net, plan, whole):
        """A paper along such arcs alone as the plan just keeps."""
        ends = [frac(start) + frac(time) for start, time in plan]

        def let(arc):
            word, number = arc
            if word == "start":
                return plan[number][0] == (0, 1)
            if word == "end":
                return ends[number] == frac(whole)
            if word == "wait":
                one, other, lag = net[1][number]
                return frac(plan[other][0]) == ends[one] + frac(lag)
            kind, work, moment = net[2][number]
            return frac(moment) == (ends[work] if kind == "by" else frac(plan[work][0]))

        return random_paper(source, net, let)


if __name__ == "__main__":
    unittest.main()
