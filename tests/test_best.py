"""Promise 11.2: the best plan of a net with works by steps, and the tree that shows it; no plan costs less (0.4 g)."""

import unittest

from hurryprice.best import best_of
from hurryprice.counting import choice_count
from hurryprice.errors import TooMany
from hurryprice.nets import is_straight
from hurryprice.plans import first_broken, price_of
from hurryprice.stairs import least_plan
from hurryprice.trees import leaves_of, tree_claim
from tests.asking import Asking, chance, frac, part, steps, straight
from tests.samples import MINUTE, net_around
from tests.stairrules import ROW
from tests.treerules import NET, random_steps_net, reckoned_ends, tuples_in

TWO = steps((2, 0), (1, 1))
FOUR = steps((4, 0), (3, 1), (2, 2), (1, 4))
# One behind the other; both longs take 9, both quick ones 4.
PAIR = ([("a", steps((5, 1), (3, 4), (2, 9))), ("b", steps((4, 0), (2, 2)))], [(0, 1, (0, 1))], [], [])


def in_a_row(*offers, groups=()):
    waits = [(at, at + 1, (0, 1)) for at in range(len(offers) - 1)]
    return ([("abcdefghij"[at], offer) for at, offer in enumerate(offers)], waits, [], [list(one) for one in groups])


class TestBest(Asking):
    def best(self, net, whole):
        """What is told, by all that 11.2 says of it."""
        told = self.asked(best_of, net, whole)
        claim = self.asked(tree_claim, net, whole, False, told[-1])
        if told[0] == "none":
            self.assertEqual(len(told), 2)
            self.assertEqual(claim, ("none",))
            return None
        word, price, plan, tree = told
        self.assertEqual(word, "plan")
        self.assertIsNone(first_broken(net, plan, whole))
        self.assertEqual(price_of(net, plan), price)
        self.assertEqual(claim, ("least", price))
        return price

    def prices(self, net, *rows):
        for whole, price in rows:
            self.assertEqual(self.best(net, part(whole)), None if price is None else part(price), whole)

    def test_two_in_a_row(self):
        self.prices(PAIR, (9, 1), (100, 1), (9 - MINUTE, 3), (7, 3), (7 - MINUTE, 6), (5, 6), (5 - MINUTE, 11),
                    (4, 11), (4 - MINUTE, None), (0, None), ("13/2", 6))

    def test_a_group_takes_its_corners_together(self):
        net = in_a_row(TWO, steps((2, 0), (1, 5)), groups=[[1, 0]])
        self.prices(net, (4, 0), (3, 6), (2, 6), ("3/2", None))
        self.prices((*net[:3], []), (4, 0), (3, 1), (2, 6), ("3/2", None))

    def test_straight_works_beside(self):
        net = in_a_row(straight((4, 0), (2, 6)), steps((3, 1), (1, 9)))
        self.prices(net, (7, 1), ("13/2", "5/2"), (5, 7), ("5", 7), ("9/2", "21/2"), (4, 12), (3, 15), ("5/2", None))

    def test_a_straight_net(self):
        for whole in ((15, 2), (5, 1), (7, 2)):
            word, price, plan, paper = least_plan(ROW, whole)
            self.assertEqual(best_of(ROW, whole), ("plan", price, plan, ("line", paper)))
        self.prices(ROW, (3, None), ("15/2", 1))

    def test_a_net_with_no_plan_at_all(self):
        ring = ([("a", TWO), ("b", TWO)], [(0, 1, (0, 1)), (1, 0, (-3, 2))], [], [])
        self.prices(ring, (0, None), (50, None))
        late = ([("a", TWO)], [], [("from", 0, (5, 1)), ("by", 0, (11, 2))], [])
        self.prices(late, (0, None), (50, None))
        self.prices(([("a", TWO)], [], [("from", 0, (5, 1)), ("by", 0, (6, 1))], []), (50, 1), (6, 1), ("11/2", None))

    def test_waits_that_lead_round(self):
        ring = ([("a", TWO), ("b", FOUR)], [(0, 1, (0, 1)), (1, 0, (-5, 1))], [], [])
        self.prices(ring, (50, 1), (6, 1), (5, 1), (4, 2), (2, 5), (1, None))

    def test_just_sixty_four_choices_and_more(self):
        net = in_a_row(*[TWO] * 6)
        self.assertEqual(choice_count(net), 64)
        self.prices(net, (12, 0), (8, 4), (6, 6), (5, None))
        tree = best_of(net, (8, 1))[3]
        self.assertLessEqual(tuples_in(tree), 127)
        for more in (in_a_row(*[TWO] * 7), in_a_row(TWO, TWO, TWO, *[steps((3, 0), (2, 1), (1, 2))] * 2)):
            self.refused(TooMany, best_of, more, (8, 1))

    def test_works_of_one_corner_fill_no_tree(self):
        net = in_a_row(straight((90, 0), (10, 80)), *[FOUR] * 3, *[steps((1, 1))] * 6)
        self.prices(net, (50, 64), (108, 6))
        self.assertLessEqual(tuples_in(best_of(net, (50, 1))[3]), 1 + 4 + 16 + 64)
        for offers in ([FOUR] * 3 + [steps((1, 1))] * 7, [steps((1, 1))] * 7 + [FOUR] * 3):
            net = in_a_row(*offers)
            self.assertEqual(choice_count(net), 64)
            self.prices(net, (19, 7), (15, 11), (11, 17), ("21/2", 19), (10, 19), (9, None))

    def test_all_of_it_together(self):
        self.prices(NET, (60, 4), ("17/2", 8), (8, "19/2"), (7, "31/2"), (7 - MINUTE, None))


class TestBestByChance(Asking):
    def test_all_choices_of_small_nets(self):
        source = chance(112)
        seen = {"plan": 0, "none": 0}
        for number in range(150):
            net = random_steps_net(source, ("steps",), 4)
            if choice_count(net) > 64:
                continue
            ends = reckoned_ends(net)
            wholes = [end for end, price in ends] or [source.randint(0, 9)]
            for whole in (source.choice(wholes), source.choice(wholes) + source.choice([-MINUTE, MINUTE, 1])):
                whole = max(whole, 0)
                told = self.asked(best_of, net, part(whole))
                seen[told[0]] += 1
                prices = [price for end, price in ends if end <= whole]
                self.assertEqual(told[1] if told[0] == "plan" else None, part(min(prices)) if prices else None)
                self.assertEqual(tree_claim(net, part(whole), False, told[-1]),
                                 ("least", told[1]) if prices else ("none",))
                if prices:
                    self.assertIsNone(first_broken(net, told[2], part(whole)))
                    self.assertEqual(price_of(net, told[2]), told[1])
        self.assertGreater(min(seen.values()), 20, seen)

    def test_steps_beside_straight_works(self):
        source = chance(113)
        for number in range(60):
            net, plans, whole = net_around(source, ("steps", "straight"), 3, 2)
            if choice_count(net) > 64:
                continue
            told = self.asked(best_of, net, whole)
            self.assertEqual(told[0], "plan")
            self.assertIsNone(first_broken(net, told[2], whole))
            self.assertEqual(price_of(net, told[2]), told[1])
            self.assertEqual(tree_claim(net, whole, False, told[3]), ("least", told[1]))
            self.assertTrue(leaves_of(net, whole, False, told[3]))
            for plan in plans:
                self.assertGreaterEqual(frac(price_of(net, plan)), frac(told[1]))
            for end, price in reckoned_ends(net, 3):
                if end <= frac(whole):
                    self.assertGreaterEqual(price, frac(told[1]))
            if is_straight(net):
                self.assertEqual(least_plan(net, whole)[1], told[1])


if __name__ == "__main__":
    unittest.main()
