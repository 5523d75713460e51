"""Promises 6.1 to 6.3, 0.4 (b) and (d): the stair of a straight net, and the least plan for a whole."""

import itertools
import unittest
from fractions import Fraction

from hurryprice.claims import bars, claimed, claims_of, is_tight
from hurryprice.errors import NotStraight
from hurryprice.nets import look_at_net
from hurryprice.papers import look_at_paper
from hurryprice.plans import first_broken, price_of, whole_of
from hurryprice.stairs import least_plan, stair_of
from hurryprice.starts import earliest
from tests.asking import Asking, chance, frac, part, steps, straight
from tests.samples import MINUTE, full_net_around
from tests.stairrules import ALONE, FIXED, ROW, keeps_stair_rules, long_net, planned_net, random_net, rates_of, ring_net


class Stairs(Asking):
    """Asks for stairs and least plans, and sees to it that each is all that it must be."""

    def stair(self, net):
        """The stair that is told of a net; fails where 6.1 isn't so."""
        self.assertIsNone(look_at_net(net))
        told = self.asked(stair_of, net)
        self.assertIs(type(told), tuple)
        if told[0] == "none":
            self.assertEqual(len(told), 2)
            self.shows_none(net, told[1])
        else:
            self.shows_stair(net, *told)
        return told

    def shows_none(self, net, paper):
        self.assertIsNone(look_at_paper(net, paper))
        price, rate, length = claims_of(net, paper)
        self.assertEqual(rate, (0, 1))
        self.assertGreater(frac(length), 0)
        for whole in (-5, 0, 10 ** 9):
            self.assertIs(bars(net, paper, part(whole)), True)

    def shows_stair(self, net, word, bends, papers, bar):
        self.assertEqual(word, "stair")
        self.assertIs(type(bends), list)
        self.assertIs(type(papers), list)
        self.assertGreater(len(bends), 0)
        self.assertEqual(len(papers), len(bends))
        for whole, price, plan in bends:
            self.assertIsNone(first_broken(net, plan, whole))
            self.assertEqual(price_of(net, plan), price)
        wholes = [frac(bend[0]) for bend in bends]
        self.assertEqual(wholes, sorted(set(wholes)))
        self.shows_papers(net, bends, papers)
        self.assertIsNone(look_at_paper(net, bar))
        price, rate, length = claims_of(net, bar)
        self.assertGreater(frac(rate), 0)
        self.assertEqual(frac(length), frac(rate) * wholes[0])
        self.assertTrue(keeps_stair_rules(net, (word, bends, papers, bar)))

    def shows_papers(self, net, bends, papers):
        for at, paper in enumerate(papers):
            self.assertIsNone(look_at_paper(net, paper))
            for whole, price, plan in bends[at:at + 2]:
                self.assertEqual(claimed(net, paper, whole), price)
                self.assertIs(is_tight(net, paper, plan, whole), True)
        rates = rates_of(net, papers)
        self.assertEqual(rates, sorted(set(rates), reverse=True))
        self.assertEqual(rates[-1], 0)

    def has_shape(self, net, *shape):
        told = self.stair(net)
        self.assertEqual([bend[:2] for bend in told[1]], [(part(whole), part(price)) for whole, price in shape])

    def has_none(self, net):
        self.assertEqual(self.stair(net)[0], "none")

    def least(self, net, whole, price):
        """The least plan for a whole has this price, or, of None, there is none."""
        told = self.asked(least_plan, net, part(whole))
        self.assertIs(type(told), tuple)
        if price is None:
            self.assertEqual((told[0], len(told)), ("bar", 2))
            self.assertIs(bars(net, told[1], part(whole)), True)
            return
        word, cost, plan, paper = told
        self.assertEqual((word, cost), ("plan", part(price)))
        self.assertIsNone(first_broken(net, plan, part(whole)))
        self.assertEqual(price_of(net, plan), cost)
        self.assertEqual(claimed(net, paper, part(whole)), cost)


class TestStairs(Stairs):
    def test_works_in_a_row(self):
        self.has_shape(ROW, ("7/2", 15), ("11/2", 7), ("15/2", 1))

    def test_one_work(self):
        self.has_shape(ALONE, (3, 7), (4, 3), (6, 1))

    def test_one_bend(self):
        self.has_shape(FIXED, (5, 2))
        self.has_shape(([("a", straight((5, 2))), ("b", straight((1, 0)))], [(0, 1, (-2, 1))], [], []), (5, 2))
        self.has_shape(([("a", straight((0, 0)))], [], [], []), (0, 0))
        # No time but the longest is needed, since the start can't be sooner.
        self.has_shape(([("a", straight((2, 0), (1, 5))), ("b", straight((4, 0)))], [], [], []), (4, 0))

    def test_works_beside_one_another(self):
        both = ([("a", straight((4, 0), (2, 6))), ("b", straight((3, 0), (1, 4)))], [], [], [])
        self.has_shape(both, (2, 8), (3, 3), (4, 0))

    def test_hurry_is_taken_back_where_two_ways_part(self):
        # The crossing is the known one: works b and c lie on two ways each, and hurrying both is undone by a or d.
        works = [("a", straight((3, 0), (1, 6))), ("b", straight((4, 0), (1, 6))), ("c", straight((4, 0), (1, 6))),
                 ("d", straight((3, 0), (1, 6))), ("e", straight((1, 0), (0, 1)))]
        waits = [(0, 2, (0, 1)), (0, 4, (0, 1)), (4, 3, (0, 1)), (1, 3, (0, 1))]
        told = self.stair((works, waits, [], []))
        self.assertEqual(told[1][0][0], (2, 1))
        self.assertEqual(told[1][-1][:2], ((7, 1), (0, 1)))

    def test_waits_below_nought(self):
        net = ([("a", straight((4, 0), (2, 6))), ("b", straight((3, 1), (1, 9)))], [(0, 1, (-1, 1))], [], [])
        self.has_shape(net, (2, 15), (4, 7), (6, 1))

    def test_several_waits_between_the_same_two(self):
        net = (ROW[0], [(0, 1, (-1, 1)), (0, 1, (1, 2)), (0, 1, (0, 1))], [], [])
        self.has_shape(net, ("7/2", 15), ("11/2", 7), ("15/2", 1))

    def test_holds_from(self):
        self.has_shape((ROW[0], ROW[1], [("from", 0, (1, 1))], []), ("9/2", 15), ("13/2", 7), ("17/2", 1))
        self.has_shape((ROW[0], ROW[1], [("from", 1, (6, 1))], []), (7, 9), (9, 1))
        self.has_shape((ROW[0], ROW[1], [("from", 1, (-6, 1))], []), ("7/2", 15), ("11/2", 7), ("15/2", 1))

    def test_holds_till_and_by(self):
        self.has_shape((ROW[0], ROW[1], [("till", 1, (7, 2))], []), ("7/2", 15), ("11/2", 7), ("13/2", 4))
        self.has_shape((ROW[0], ROW[1], [("by", 0, (2, 1))], []), ("7/2", 15), ("11/2", 7))
        self.has_shape((ROW[0], ROW[1], [("by", 1, (4, 1))], []), ("7/2", 15), (4, 13))
        self.has_shape((ROW[0], ROW[1], [("by", 1, (7, 2))], []), ("7/2", 15))
        self.has_shape((ROW[0], ROW[1], [("till", 0, (0, 1)), ("from", 0, (0, 1))], []),
                       ("7/2", 15), ("11/2", 7), ("15/2", 1))

    def test_a_hold_that_two_works_share_out(self):
        # By 5 both together save 5/2 units; the cheaper one gives two of them.
        self.has_shape((ROW[0], ROW[1], [("by", 1, (5, 1))], []), ("7/2", 15), (5, 9))

    def test_a_ring_of_just_nought(self):
        works = [("a", straight((4, 0), (2, 6))), ("b", straight((3, 1), (1, 9)))]
        self.has_shape((works, [(0, 1, (0, 1)), (1, 0, (-7, 1))], [], []), (3, 15), (5, 7), (7, 1))
        self.has_shape((works, [(0, 1, (0, 1)), (1, 0, (-5, 1))], [], []), (3, 15), (5, 7))
        self.has_shape((works, [(0, 1, (0, 1)), (1, 0, (-4, 1))], [], []), (3, 15), (4, 11))
        self.has_shape((works, [(0, 1, (0, 1)), (1, 0, (-3, 1))], [], []), (3, 15))
        self.has_none((works, [(0, 1, (0, 1)), (1, 0, part(-3 + MINUTE))], [], []))

    def test_a_ring_of_works_without_time(self):
        works = [("a", straight((0, 3))), ("b", straight((0, 4)))]
        self.has_shape((works, [(0, 1, (0, 1)), (1, 0, (0, 1))], [], []), (0, 7))
        self.has_none((works, [(0, 1, (0, 1)), (1, 0, part(MINUTE))], [], []))

    def test_no_plan_at_all(self):
        for holds in ([("till", 0, (-1, 1))], [("by", 0, (1, 1))], [("from", 0, (2, 1)), ("till", 0, (1, 1))],
                      [("from", 0, (1, 1)), ("by", 1, (4, 1))], [("by", 1, part(Fraction(7, 2) - MINUTE))]):
            self.has_none((ROW[0], ROW[1], holds, []))
        self.has_none((ROW[0], ROW[1] + [(1, 0, (-3, 1))], [], []))

    def test_a_ring_away_from_the_other_works(self):
        works = [(name, straight((2, 0), (1, 1))) for name in "abcdef"]
        waits = [(0, 1, (0, 1)), (1, 2, (0, 1)), (2, 1, (-1, 1)), (2, 3, (0, 1)), (3, 4, (0, 1)), (4, 5, (9, 1))]
        self.has_none((works, waits, [], []))

    def test_fractions_that_are_not_whole(self):
        net = ([("a", straight(("7/3", "1/7"), ("5/3", "8/7"), ("1/11", 9)))], [], [("from", 0, (1, 13))], [])
        first, middle, last = [Fraction(1, 13) + Fraction(one) for one in ("1/11", "5/3", "7/3")]
        self.has_shape(net, (first, 9), (middle, "8/7"), (last, "1/7"))

    def test_not_straight(self):
        for works in ([("a", steps((4, 0), (2, 6)))], [("a", straight((4, 0))), ("b", steps((2, 6)))],
                      [("a", steps((2, 0), (1, 1))), ("b", straight((4, 0)))]):
            net = (works, [], [], [])
            self.refused(NotStraight, stair_of, net)
            self.refused(NotStraight, least_plan, net, (5, 1))
            self.refused(NotStraight, least_plan, net, (-5, 1))

    def test_lists_of_its_own_though_those_handed_in_are_shared(self):
        nothing, offer = [], straight((4, 0), (2, 1))
        shared = ([("a", offer), ("b", offer)], nothing, nothing, nothing)
        self.watch_lists(stair_of(shared), shared)
        for whole in (1, 2, 3, 4, 9):
            self.watch_lists(least_plan(shared, part(whole)), shared)


class TestLeastPlan(Stairs):
    def test_below_at_between_and_behind_the_bends(self):
        for whole, price in ((-3, None), (0, None), (Fraction(7, 2) - MINUTE, None), ("7/2", 15), (4, 13), ("11/2", 7),
                             (6, "11/2"), ("15/2", 1), (8, 1), (10 ** 9, 1)):
            self.least(ROW, whole, price)

    def test_one_bend(self):
        for whole, price in ((4, None), (5 - MINUTE, None), (5, 2), (5 + MINUTE, 2), (9, 2)):
            self.least(FIXED, whole, price)

    def test_no_plan_at_all(self):
        net = (ROW[0], ROW[1], [("by", 0, (1, 1))], [])
        for whole in (-1, 0, 4, 10 ** 9):
            self.least(net, whole, None)

    def test_all_over_random_stairs(self):
        source = chance(62)
        for number in range(40):
            net = planned_net(source, 4)
            bends = [(frac(whole), frac(price)) for whole, price, plan in stair_of(net)[1]]
            self.least(net, bends[0][0] - source.choice([MINUTE, Fraction(1, 3)]), None)
            self.least(net, bends[-1][0] + source.choice([MINUTE, Fraction(1, 3)]), bends[-1][1])
            for (whole, price), (later, lesser) in zip(bends, bends[1:]):
                share = Fraction(source.randint(0, 6), 7)
                self.least(net, whole + share * (later - whole), price + share * (lesser - price))


class TestEveryNet(Stairs):
    def test_nets_that_have_plans(self):
        source = chance(63)
        many = [len(self.stair(planned_net(source, 6))[1]) for number in range(150)]
        self.assertGreater(max(many), 8)

    def test_nets_that_may_have_none(self):
        source = chance(64)
        seen = [self.stair(random_net(source, 5))[0] for number in range(200)]
        self.assertGreater(min(seen.count("none"), seen.count("stair")), 30)

    def test_rings_of_just_nought(self):
        source = chance(65)
        for number in range(60):
            self.assertEqual(self.stair(ring_net(source))[0], "stair")
            self.has_none(ring_net(source, MINUTE))

    def test_nets_at_their_bounds(self):
        source = chance(66)
        for number in range(6):
            self.stair(full_net_around(source, ("straight",), (10, 40, 40), 1 + number % 3)[0])

    def test_ten_works_of_five_corners(self):
        source = chance(67)
        works = []
        for name in "abcdefghij":
            times = sorted(source.sample(range(1, 30), 5), reverse=True)
            prices = list(itertools.accumulate(
                (sooner - later) * (7 * at + source.randint(1, 7)) for at, (sooner, later)
                in enumerate(zip([times[0]] + times, times))))
            works.append((name, straight(*zip(times, prices))))
        waits = [(one, other, (0, 1)) for one in range(10) for other in range(one + 1, 10) if (one * other) % 3]
        self.assertGreater(len(self.stair((works, waits, [], []))[1]), 8)

    def test_long_fractions(self):
        source = chance(68)
        for counts in ((1, 5, 0, 2), (3, 3, 3, 3), (5, 4, 8, 5), (7, 3, 12, 6)):
            told = self.long_stair(long_net(source, *counts))
            self.assertGreater(len(told[1]), 2)

    def long_stair(self, net):
        # Numbers so long can't be shown as texts, so asked, which compares texts, isn't used.
        self.assertIsNone(look_at_net(net))
        told = stair_of(net)
        self.shows_stair(net, *told)
        return told

    def test_long_fractions_without_a_plan(self):
        works, waits, holds, groups = long_net(chance(69), 4, 4, 5, 0)
        quick = [offer[1][-1][0] for name, offer in works]
        starts = earliest((works, waits, [], []), quick)[1]
        for work in range(4):
            end = frac(starts[work]) + frac(quick[work])
            just = [("by", work, part(end)), ("till", work, starts[work])]
            for hold in just:
                self.assertEqual(stair_of((works, waits, [hold], []))[0], "stair")
                sooner = (works, waits, [(hold[0], work, part(frac(hold[2]) - MINUTE))], [])
                told = stair_of(sooner)
                self.assertEqual(told[0], "none")
                self.shows_none(sooner, told[1])

    def test_against_all_plans_of_small_nets(self):
        # Of whole numbers alone some least plan for a whole number has whole times, so all can be gone through.
        source = chance(70)
        seen = []
        for number in range(40):
            net = self.whole_net(source)
            cheapest = self.cheapest_by_whole(net)
            for whole in range(0, 14):
                prices = [price for least, price in cheapest if least <= whole]
                self.least(net, whole, min(prices) if prices else None)
                seen.append(bool(prices))
        self.assertGreater(min(seen.count(True), seen.count(False)), 40)

    def whole_net(self, source):
        works = []
        for name in "abc"[:source.randint(1, 3)]:
            quick = source.randint(0, 2)
            corners = [(quick + 3, 0), (quick + 2, source.randint(1, 3)), (quick, source.randint(10, 19))]
            works.append((name, straight(*corners[source.randint(0, 2):])))
        many = len(works)
        pairs = [source.sample(range(many), 2) for number in range(3 if many > 1 else 0)]
        waits = [(one, other, part(source.randint(-9, 2))) for one, other in pairs]
        kinds = [source.choice(["from", "till", "by"]) for number in range(source.randint(0, 2))]
        holds = [(kind, source.randrange(many), part(source.randint(0, 3 if kind == "from" else 9))) for kind in kinds]
        return (works, waits, holds, [])

    def cheapest_by_whole(self, net):
        """For all whole times of works the least whole and the price."""
        found = []
        ranges = [range(offer[1][-1][0][0], offer[1][0][0][0] + 1) for name, offer in net[0]]
        for times in itertools.product(*ranges):
            word, starts = earliest(net, [part(time) for time in times])
            if word == "starts":
                plan = [(start, part(time)) for start, time in zip(starts, times)]
                found.append((frac(whole_of(plan)), frac(price_of(net, plan))))
        return found


if __name__ == "__main__":
    unittest.main()
