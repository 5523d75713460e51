"""Promise 11.1: what is chosen of a net, how many choices there are, all of them."""

import math
import unittest

from hurryprice.choices import is_choice
from hurryprice.counting import all_choices, choice_count, chosen_of
from hurryprice.errors import TooMany
from tests.asking import Asking, chance, steps, straight
from tests.treerules import NET, all_corners, random_steps_net

TWO, THREE, FOUR = steps((2, 0), (1, 1)), steps((3, 0), (2, 1), (1, 2)), steps((4, 0), (3, 1), (2, 2), (1, 3))


def net_of(*offers, groups=()):
    return ([("abcdefghij"[at], offer) for at, offer in enumerate(offers)], [], [], [list(group) for group in groups])


class TestChosen(Asking):
    def chosen(self, net, rows, count):
        self.assertEqual(self.asked(chosen_of, net), rows)
        told = self.asked(choice_count, net)
        self.assertEqual(told, count)
        self.assertIs(type(told), int)

    def test_in_order(self):
        self.chosen(NET, [([1, 3], 2), ([2], 3), ([4], 1)], 6)
        self.chosen((*NET[:3], []), [([1], 2), ([2], 3), ([3], 2), ([4], 1)], 12)

    def test_groups_are_sorted_by_their_first_works(self):
        net = net_of(TWO, THREE, TWO, THREE, straight((1, 1)), TWO, THREE, TWO, groups=[[7, 5], [6, 1], [2, 0]])
        self.chosen(net, [([0, 2], 2), ([1, 6], 3), ([3], 3), ([5, 7], 2)], 36)

    def test_no_work_by_steps(self):
        self.chosen(net_of(straight((3, 0), (1, 1)), straight((2, 2))), [], 1)
        self.assertEqual(self.asked(all_choices, net_of(straight((3, 0), (1, 1)))), [{}])

    def test_one_corner_each(self):
        self.chosen(net_of(*[steps((1, 1))] * 10), [([at], 1) for at in range(10)], 1)
        self.assertEqual(self.asked(all_choices, net_of(*[steps((1, 1))] * 10)), [{at: 0 for at in range(10)}])

    def test_however_many(self):
        five = steps((5, 0), (4, 1), (3, 2), (2, 3), (1, 4))
        self.chosen(net_of(*[five] * 10), [([at], 5) for at in range(10)], 5 ** 10)
        self.chosen(net_of(*[five] * 10, groups=[range(10)]), [(list(range(10)), 5)], 5)


class TestAllChoices(Asking):
    def test_the_first_corner_rises_slowest(self):
        self.assertEqual(self.asked(all_choices, NET), [
            {1: one, 3: one, 2: other, 4: 0} for one in range(2) for other in range(3)])

    def test_just_sixty_four_and_more(self):
        self.assertEqual(len(self.asked(all_choices, net_of(*[TWO] * 6))), 64)
        self.assertEqual(len(all_choices(net_of(FOUR, FOUR, FOUR, *[steps((1, 1))] * 7))), 64)
        self.assertEqual(len(all_choices(net_of(*[TWO] * 10, groups=[range(5)]))), 64)
        for net in (net_of(TWO, TWO, TWO, THREE, THREE), net_of(*[TWO] * 7), net_of(*[TWO] * 10, groups=[range(4)])):
            self.assertGreater(choice_count(net), 64)
            self.refused(TooMany, all_choices, net)

    def test_by_chance(self):
        source = chance(111)
        for number in range(150):
            net = random_steps_net(source, ("steps", "steps", "straight"), 4)
            rows = self.asked(chosen_of, net)
            choices = all_corners(net)
            self.assertEqual(self.asked(choice_count, net), math.prod(many for row, many in rows))
            self.assertEqual(choice_count(net), len(choices))
            if len(choices) > 64:
                self.refused(TooMany, all_choices, net)
                continue
            firsts = [row[0] for row, many in rows]
            choices = sorted(choices, key=lambda choice: [choice[work] for work in firsts])
            self.assertEqual(self.asked(all_choices, net), choices)
            self.assertTrue(all(is_choice(net, choice) for choice in choices))


if __name__ == "__main__":
    unittest.main()
