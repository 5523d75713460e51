"""Promises 7.1, 7.3 and 0.4 (b): whether any thing is a stair of a straight net, and plans between bends."""

import unittest
from fractions import Fraction

from hurryprice.claims import claimed, claims_of
from hurryprice.errors import HurryError, NotStraight
from hurryprice.papers import look_at_paper
from hurryprice.plans import first_broken, price_of
from hurryprice.shapes import price_at, shape_of
from hurryprice.stairlook import lets_stair, plan_at
from hurryprice.stairs import stair_of
from tests.asking import chance, frac, part, steps, straight, things_of_every_kind
from tests.samples import MINUTE, random_paper
from tests.stairrules import (ALONE, FIXED, ROW, Looking, keeps_stair_rules, nudged, planned_net, random_net, rates_of,
                              ring_net)

HELD = (ROW[0], ROW[1] + [(1, 0, (-9, 1))], [("from", 0, (1, 2)), ("till", 1, (7, 1)), ("by", 1, (15, 2))], [])
BARRED = (ROW[0], ROW[1], [("by", 1, (3, 1)), ("till", 0, (0, 1))], [])


def has_stair_form(net, thing):
    """Tells whether the plans and papers of a thing that is like a stair are such."""
    papers = [thing[1]] if thing[0] == "none" else thing[2] + [thing[3]]
    try:
        for paper in papers:
            look_at_paper(net, paper)
    except HurryError:
        return False
    return thing[0] == "none" or all(frac(time) >= 0 for bend in thing[1] for start, time in bend[2])


class Look(Looking):
    def lets(self, net):
        return lambda thing: lets_stair(net, thing)


class TestLetsStair(Look):
    def test_told_stairs_are_let_by(self):
        source = chance(73)
        for number in range(80):
            net = random_net(source, 4) if number % 2 else planned_net(source, 5)
            self.assertIs(self.asked(lets_stair, net, stair_of(net)), True)
        for number in range(20):
            net = ring_net(source, source.choice([Fraction(0), MINUTE]))
            self.assertIs(self.asked(lets_stair, net, stair_of(net)), True)

    def test_things_of_every_kind(self):
        for net in (ROW, FIXED, BARRED):
            self.never_lets(self.lets(net), *things_of_every_kind())
            self.never_lets(self.lets(net), ("none",), ("stair",), ("none", None), ("stair", [], [], []), ("none", []))

    def test_stairs_spoilt_in_one_place(self):
        for net in (ROW, FIXED, HELD, BARRED):
            self.lets_no_spoilt_one(self.lets(net), stair_of(net))

    def test_numbers_nudged_in_one_place(self):
        # What is good stays good here and there, say a start that has slack: so held against the rules one by one.
        seen = []
        for net in (ROW, FIXED, HELD, BARRED, ALONE, planned_net(chance(74), 4)):
            for thing in nudged(stair_of(net)):
                truth = has_stair_form(net, thing) and keeps_stair_rules(net, thing)
                self.assertIs(lets_stair(net, thing), truth, repr(thing))
                seen.append(truth)
        self.assertGreater(seen.count(False), 100)

    def test_stairs_by_other_hands(self):
        word, bends, papers, bar = stair_of(HELD)
        for paper in papers + [bar]:
            paper.reverse()
        self.assertIs(lets_stair(HELD, (word, bends, papers, bar)), True)
        threefold = [(arc, part(3 * frac(amount))) for arc, amount in bar]
        self.assertIs(lets_stair(HELD, (word, bends, papers, threefold)), True)
        # A free work may start at any time that the whole lets.
        net = (ALONE[0] + [("b", straight((1, 0)))], [], [], [])
        word, bends, papers, bar = stair_of(net)
        for start, truth in ((0, True), (2, True), (5, True), (5 + MINUTE, False), (-MINUTE, False)):
            bends[-1][2][1] = (part(start), (1, 1))
            self.assertIs(lets_stair(net, (word, bends, papers, bar)), truth)

    def test_bends_left_out_put_in_or_exchanged(self):
        word, bends, papers, bar = stair_of(ROW)
        never = self.lets(ROW)
        for at in range(3):
            less, fewer = bends[:at] + bends[at + 1:], papers[:at] + papers[at + 1:]
            self.never_lets(never, (word, less, papers, bar), (word, bends, fewer, bar), (word, less, fewer, bar))
            twice = bends[:at] + bends[at:at + 1] + bends[at:]
            self.never_lets(never, (word, twice, papers[:at] + papers[at:at + 1] + papers[at:], bar))
        between = ((9, 2), price_at(shape_of(stair_of(ROW)), (9, 2)), plan_at(ROW, stair_of(ROW), (9, 2)))
        self.assertIsNone(first_broken(ROW, between[2], between[0]))
        self.never_lets(never, (word, bends[:1] + [between] + bends[1:], papers[:1] + papers, bar))
        self.never_lets(never, (word, bends[::-1], papers[::-1], bar), (word, bends, papers[::-1], bar))
        later = ((8, 1), *bends[-1][1:])
        self.never_lets(never, (word, bends + [later], papers + [[]], bar), (word, bends[:2] + [later], papers, bar))
        self.never_lets(never, ("none", bends, papers, bar), (word, bends, papers), ("stair", papers[0]))

    def test_a_bend_twice_with_a_paper_of_its_own(self):
        # Between the rates of both pieces there is a paper for the bend alone: all else of 6.1 is so.
        word, bends, papers, bar = stair_of(ROW)
        between = [(arc, (7, 2)) for arc, amount in papers[0]]
        self.assertEqual(rates_of(ROW, papers[:1] + [between] + papers[1:]), [4, Fraction(7, 2), 3, 0])
        self.assertEqual(claimed(ROW, between, bends[1][0]), bends[1][1])
        self.never_lets(self.lets(ROW), (word, bends[:2] + bends[1:], papers[:1] + [between] + papers[1:], bar))

    def test_bars_that_are_none(self):
        word, bends, papers, bar = stair_of(ROW)
        other = [(("start", 0), (1, 1)), (("end", 0), (1, 1))]
        self.assertIsNone(look_at_paper(ROW, other))
        self.never_lets(self.lets(ROW), (word, bends, papers, other), (word, bends, papers, []))
        # A bar at the rate of nought is none, though its length is the rate times the whole.
        net = (FIXED[0], [], [("from", 0, (0, 1)), ("till", 0, (0, 1))], [])
        word, bends, papers, bar = stair_of(net)
        flat = [(("hold", 0), (2, 1)), (("hold", 1), (2, 1))]
        self.assertEqual(claims_of(net, flat)[1:], ((0, 1), (0, 1)))
        self.assertIs(lets_stair(net, (word, bends, papers, bar)), True)
        self.assertIs(lets_stair(net, (word, bends, [flat], bar)), True)
        self.never_lets(self.lets(net), (word, bends, papers, flat), ("none", flat), (word, bends, [bar], bar))

    def test_none_is_for_nets_without_plans_alone(self):
        source = chance(75)
        seen = 0
        for number in range(60):
            net = planned_net(source, 3)
            for turn in range(4):
                self.assertIs(lets_stair(net, ("none", random_paper(source, net))), False)
            net = random_net(source, 4)
            told = stair_of(net)
            for turn in range(40 if told[0] == "none" else 0):
                paper = random_paper(source, net)
                price, rate, length = claims_of(net, paper)
                truth = rate == (0, 1) and frac(length) > 0
                self.assertIs(lets_stair(net, ("none", paper)), truth)
                seen += truth
        self.assertGreater(seen, 5)

    def test_a_stair_of_another_net(self):
        self.assertIs(lets_stair(ALONE, stair_of(FIXED)), False)
        self.assertIs(lets_stair(FIXED, stair_of(ALONE)), False)
        self.assertIs(lets_stair(ROW, stair_of(HELD)), False)
        self.assertIs(lets_stair(ROW, stair_of(BARRED)), False)

    def test_not_straight(self):
        net = ([("a", steps((4, 0), (2, 6))), ("b", straight((1, 0)))], [], [], [])
        for thing in things_of_every_kind()[:20] + [stair_of(ROW), stair_of(BARRED)]:
            self.refused(NotStraight, lets_stair, net, thing)


class TestPlanAt(Look):
    def plan(self, net, stair, whole):
        return self.asked(plan_at, net, stair, part(whole))

    def test_below_at_between_and_behind_the_bends(self):
        stair = stair_of(ROW)
        for whole in (-1, 0, Fraction(7, 2) - MINUTE):
            self.assertIsNone(self.plan(ROW, stair, whole))
        for whole, price in (("7/2", 15), (4, 13), ("11/2", 7), (6, "11/2"), ("15/2", 1), (8, 1), (99, 1)):
            plan = self.plan(ROW, stair, whole)
            self.assertIsNone(first_broken(ROW, plan, part(whole)))
            self.assertEqual(price_of(ROW, plan), part(price))

    def test_mixed_or_a_bends(self):
        stair = stair_of(ROW)
        for at, whole in enumerate(("7/2", "11/2", "15/2")):
            self.assertEqual(self.plan(ROW, stair, whole), stair[1][at][2])
        self.assertEqual(self.plan(ROW, stair, 77), stair[1][2][2])
        quarter = [((0, 1), (2, 1)), ((5, 2), (3, 2))]
        self.assertEqual(self.plan(ROW, stair, 4), quarter)

    def test_one_bend(self):
        stair = stair_of(FIXED)
        self.assertIsNone(self.plan(FIXED, stair, 5 - MINUTE))
        for whole in (5, 5 + MINUTE, 70):
            self.assertEqual(self.plan(FIXED, stair, whole), [((0, 1), (5, 1))])

    def test_any_stair_that_is_let_by(self):
        # Not the told plans: the free work starts late, and later in one of them.
        net = (ALONE[0] + [("b", straight((1, 0)))], [], [], [])
        word, bends, papers, bar = stair_of(net)
        bends[1][2][1], bends[2][2][1] = ((3, 1), (1, 1)), ((5, 1), (1, 1))
        stair = (word, bends, papers, bar)
        self.assertIs(lets_stair(net, stair), True)
        for whole in (3, "7/2", 4, "14/3", 6, 7):
            plan = self.plan(net, stair, whole)
            self.assertIsNone(first_broken(net, plan, part(whole)))
            self.assertEqual(price_of(net, plan), price_at(shape_of(stair), part(whole)))

    def test_all_over_random_stairs(self):
        source = chance(76)
        for number in range(50):
            net = planned_net(source, 5)
            stair = stair_of(net)
            shape = shape_of(stair)
            first, last = frac(shape[0][0]), frac(shape[-1][0])
            for turn in range(4):
                whole = first + (last - first) * Fraction(source.randint(0, 9), 9)
                plan = self.plan(net, stair, whole)
                self.assertIsNone(first_broken(net, plan, part(whole)))
                self.assertEqual(price_of(net, plan), price_at(shape, part(whole)))

    def test_not_straight(self):
        net = ([("a", steps((6, 1), (4, 3), (3, 7)))], [], [], [])
        for whole in (-1, 3, 5, 9):
            self.refused(NotStraight, plan_at, net, stair_of(ALONE), part(whole))


if __name__ == "__main__":
    unittest.main()
