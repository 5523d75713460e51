"""Promise 10.1: choices for a net, and the net as chosen."""

import itertools
import unittest

from hurryprice.choices import chosen_net, is_choice
from hurryprice.nets import look_at_net
from hurryprice.papers import look_at_paper
from hurryprice.plans import first_broken, price_of
from tests.asking import Plain, chance, steps, straight, things_of_every_kind
from tests.samples import net_around, random_paper
from tests.stairrules import Looking

WORKS = [("a", straight((4, 0), (2, 6))), ("b", steps((3, 1), (1, 9))), ("c", steps((5, 0), (2, 1), (1, 7))),
         ("d", steps((6, 0), (4, 2))), ("e", steps((7, 3)))]
NET = (WORKS, [(0, 1, (1, 2)), (1, 2, (-1, 1))], [("from", 0, (1, 1)), ("by", 2, (50, 1))], [[3, 1]])


class TestIsChoice(Looking):
    def lets(self, thing):
        return is_choice(NET, thing)

    def good(self, *some):
        for choice in some:
            self.assertIs(self.asked(is_choice, NET, choice), True, choice)

    def test_good_ones(self):
        self.good({}, {2: 0}, {2: 2}, {4: 0}, {1: 0, 3: 0}, {3: 1, 1: 1}, {4: 0, 3: 1, 2: 1, 1: 1})

    def test_things_of_every_kind(self):
        self.never_lets(self.lets, *[thing for thing in things_of_every_kind() if thing != {}])
        self.never_lets(self.lets, [(2, 0)], ((2, 0),), [2], {2}, "2")

    def test_works_that_are_none_or_straight(self):
        self.never_lets(self.lets, {0: 0}, {0: 1}, {5: 0}, {-1: 0}, {-3: 0}, {2: 0, 0: 0}, {2: 0, 5: 0}, {10 ** 30: 0})

    def test_corners_that_are_none(self):
        self.never_lets(self.lets, {2: 3}, {2: -1}, {4: 1}, {1: 2, 3: 2}, {1: -1, 3: -1}, {2: 10 ** 30})

    def test_a_group_in_part_or_of_unlike_numbers(self):
        self.never_lets(self.lets, {1: 0}, {3: 1}, {1: 0, 3: 1}, {3: 0, 1: 1}, {1: 0, 2: 0}, {3: 1, 4: 0})
        three = (WORKS[1:2] + WORKS[3:4] + [("f", steps((2, 0), (1, 1)))], [], [], [[2, 0, 1]])
        self.assertIs(is_choice(three, {0: 1, 1: 1, 2: 1}), True)
        self.never_lets(lambda thing: is_choice(three, thing), {0: 1, 1: 1}, {2: 1, 0: 1}, {0: 1, 1: 0, 2: 1},
                        {0: 1, 1: 1, 2: 0}, {0: 0, 1: 1, 2: 1}, {2: 0})

    def test_keys_and_values_of_other_kinds(self):
        for wrong in (True, False, None, "2", b"2", (2,), (0, 1), Plain()):
            self.never_lets(self.lets, {wrong: 0}, {2: wrong}, {2: 0, wrong: 0}, {4: 0, 2: wrong})
        self.never_lets(self.lets, {2: [0]}, {2: {}}, {2: []}, {2: {0}})
        one = (WORKS[1:3], [], [], [])
        self.assertIs(is_choice(one, {0: 1, 1: 1}), True)
        self.never_lets(lambda thing: is_choice(one, thing), {False: 1}, {True: 1}, {0: True}, {1: False},
                        {0: 1, True: 1})

    def test_against_all_dicts_of_small_numbers(self):
        groups = ((NET[3], {1, 3}), ([[1, 3]], {1, 3}), ([], set()))
        for bound, members in groups:
            net = (*NET[:3], bound)
            for numbers in itertools.product([None, 0, 1, 2], repeat=5):
                choice = {work: number for work, number in enumerate(numbers) if number is not None}
                truth = 0 not in choice and all(number < len(WORKS[work][1][1]) for work, number in choice.items())
                taken = {choice.get(work) for work in members}
                self.assertIs(is_choice(net, choice), truth and len(taken) < 2, choice)


class TestChosenNet(Looking):
    def chosen(self, choice, works, groups):
        made = self.asked(chosen_net, NET, choice)
        self.assertEqual(made, (works, NET[1], NET[2], groups))
        self.assertIsNone(look_at_net(made))

    def test_the_empty_choice(self):
        self.chosen({}, WORKS, [[3, 1]])

    def test_offers_of_one_corner(self):
        self.chosen({2: 1}, WORKS[:2] + [("c", straight((2, 1)))] + WORKS[3:], [[3, 1]])
        self.chosen({4: 0, 2: 2}, WORKS[:2] + [("c", straight((1, 7)))] + WORKS[3:4] + [("e", straight((7, 3)))],
                    [[3, 1]])

    def test_groups_whose_works_are_in_it_go(self):
        works = WORKS[:1] + [("b", straight((1, 9)))] + WORKS[2:3] + [("d", straight((4, 2)))] + WORKS[4:]
        self.chosen({1: 1, 3: 1}, works, [])
        two = ([(name, steps((2, 0), (1, 1))) for name in "abcd"], [], [], [[3, 0], [1, 2]])
        made = self.asked(chosen_net, two, {1: 0, 2: 0})
        self.assertEqual(made[3], [[3, 0]])
        self.assertEqual([offer[0] for name, offer in made[0]], ["steps", "straight", "straight", "steps"])
        self.assertEqual(self.asked(chosen_net, two, {0: 0, 3: 0})[3], [[1, 2]])
        self.assertEqual(self.asked(chosen_net, two, {0: 0, 3: 0, 2: 1, 1: 1})[3], [])

    def test_lists_of_its_own_though_those_handed_in_are_shared(self):
        nothing, offer = [], steps((4, 0), (2, 1))
        shared = ([("a", offer), ("b", offer)], nothing, nothing, nothing)
        for choice in ({}, {0: 1}, {0: 0, 1: 1}):
            self.watch_lists(chosen_net(shared, choice), shared)

    def test_plans_and_papers_keep_their_numbers(self):
        source = chance(106)
        for number in range(100):
            net, (plan,), whole = net_around(source, ("steps", "steps", "straight"), 5, 1)
            bound = {work: at for at, group in enumerate(net[3]) for work in group}
            left = {at for at in range(len(net[3])) if source.random() < 0.5}
            choice = {}
            for work, (name, (kind, corners)) in enumerate(net[0]):
                free = source.random() < 0.5 if work not in bound else bound[work] in left
                if kind == "steps" and not free:
                    choice[work] = [corner[0] for corner in corners].index(plan[work][1])
            self.assertIs(self.asked(is_choice, net, choice), True)
            made = self.asked(chosen_net, net, choice)
            self.assertIsNone(look_at_net(made))
            self.assertIsNone(first_broken(made, plan, whole))
            self.assertEqual(price_of(made, plan), price_of(net, plan))
            self.assertIsNone(look_at_paper(made, random_paper(source, net)))


if __name__ == "__main__":
    unittest.main()
