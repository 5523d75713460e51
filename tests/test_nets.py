"""Promises 2.4 and 2.5: nets, looked at, straight, smoothed."""

import unittest

from hurryprice.errors import NoNet
from hurryprice.nets import is_straight, look_at_net, smoothed_net
from tests.asking import Asking, steps, straight, things_of_every_kind

PAIR = steps((4, 0), (2, 9))
THREE = steps((4, 0), (3, 8), (2, 9))
SLOPE = straight((4, 0), (1, 6))
WORKS = [("a", PAIR), ("b", PAIR), ("c", THREE), ("d", THREE), ("e", SLOPE), ("f", PAIR)]
WAITS = [(0, 1, (1, 2)), (1, 0, (-7, 1)), (0, 1, (0, 1)), (5, 2, (3, 1))]
HOLDS = [("from", 0, (-1, 1)), ("till", 5, (9, 2)), ("by", 2, (0, 1)), ("by", 2, (0, 1))]
GROUPS = [[5, 0], [2, 3]]
NET = (WORKS, WAITS, HOLDS, GROUPS)


def many_works(many, offer):
    return [("abcdefghijklm"[at], offer) for at in range(many)]


class TestLook(Asking):
    def is_net(self, thing):
        self.assertIsNone(self.asked(look_at_net, thing))

    def is_none(self, thing, part, number):
        refusal = self.refused(NoNet, look_at_net, thing)
        self.assertEqual((refusal.part, refusal.number), (part, number), repr(thing))

    def test_ordinary_nets(self):
        self.is_net(NET)
        self.is_net(([("a", SLOPE)], [], [], []))
        self.is_net((WORKS, [], [], GROUPS))
        self.is_net((WORKS, WAITS, HOLDS, []))

    def test_what_is_no_tuple_of_four(self):
        for thing in things_of_every_kind() + [list(NET), NET[:3], NET + ([],), {0: NET}, [NET]]:
            self.is_none(thing, "net", None)

    def test_at_the_bounds_and_one_beyond(self):
        ten = many_works(10, PAIR)
        waits = [(at // 10, 9 - at // 10, (at, 1)) for at in range(40)]
        holds = [("till", at // 4, (at, 1)) for at in range(40)]
        groups = [[0, 1], [2, 3], [4, 5], [9, 6]]
        self.is_net((ten, waits, holds, groups))
        self.is_none((many_works(11, PAIR), waits, holds, groups), "works", None)
        self.is_none(([], [], [], []), "works", None)
        self.is_none((ten, waits + waits[:1], holds, groups), "waits", None)
        self.is_none((ten, waits, holds + holds[:1], groups), "holds", None)
        self.is_none((ten, waits, holds, groups + [[7, 8]]), "groups", None)
        self.is_net((ten, waits, holds, [[9, 0, 1, 2, 3, 4, 5, 6, 7, 8]]))

    def test_too_many_whatever_stands_in_it(self):
        self.is_none(([None] * 11, [], [], []), "works", None)
        self.is_none((WORKS, [None] * 41, [], []), "waits", None)
        self.is_none((WORKS, [], [None] * 41, []), "holds", None)
        self.is_none((WORKS, [], [], [None] * 5), "groups", None)

    def test_what_is_no_list(self):
        for thing in things_of_every_kind():
            if not isinstance(thing, list):
                self.is_none((thing, [], [], []), "works", None)
                self.is_none((WORKS, thing, [], []), "waits", None)
                self.is_none((WORKS, [], thing, []), "holds", None)
                self.is_none((WORKS, [], [], thing), "groups", None)
        self.is_none((tuple(WORKS), [], [], []), "works", None)
        self.is_none((WORKS, tuple(WAITS), [], []), "waits", None)
        self.is_none((WORKS, [], tuple(HOLDS), []), "holds", None)
        self.is_none((WORKS, [], [], tuple(GROUPS)), "groups", None)

    def test_things_of_every_kind_in_each_part(self):
        for thing in things_of_every_kind():
            self.is_none(([thing], [], [], []), "works", 0)
            self.is_none((WORKS + [thing], [], [], []), "works", 6)
            self.is_none((WORKS, WAITS + [thing], [], []), "waits", 4)
            self.is_none((WORKS, [], HOLDS + [thing], []), "holds", 4)
            self.is_none((WORKS, [], [], GROUPS + [thing]), "groups", 2)

    def test_works(self):
        wrong = [["g", PAIR], ("g",), ("g", PAIR, PAIR), (PAIR, "g"), ("", PAIR), ("G", PAIR), ("ghijklmno", PAIR)]
        wrong += [(b"g", PAIR), ("g", list(PAIR)), ("g", ("steps", [])), ("g", None), ("g", straight((4, 0), (4, 1)))]
        for work in wrong + [("a", SLOPE), ("f", PAIR)]:
            self.is_none((WORKS + [work], [], [], []), "works", 6)
            self.is_none((WORKS + [work, None], None, None, None), "works", 6)
        self.is_none(([("a", PAIR), ("b", PAIR), ("a", SLOPE), None], [], [], []), "works", 2)
        self.is_net((WORKS + [("ghijklmn", PAIR)], [], [], []))

    def test_waits(self):
        wrong = [[0, 1, (0, 1)], (0, 1), (0, 1, (0, 1), 0), (0, 0, (0, 1)), (5, 5, (1, 1))]
        wrong += [(6, 0, (0, 1)), (0, 6, (0, 1))]
        wrong += [(-1, 0, (0, 1)), (0, -1, (0, 1)), (True, 0, (0, 1)), (0, True, (0, 1)), (False, 1, (0, 1))]
        wrong += [(0, 1, 0), (0, 1, (0, 2)), (0, 1, (1, -1)), (0, 1, [0, 1]), (0, 1, None), ("a", "b", (0, 1))]
        for wait in wrong:
            self.is_none((WORKS, [wait], [], []), "waits", 0)
            self.is_none((WORKS, WAITS + [wait, None] + WAITS, None, None), "waits", 4)
        for wait in [(4, 3, (-1, 3)), (3, 4, (10 ** 59, 7)), (0, 5, (0, 1))]:
            self.is_net((WORKS, WAITS + [wait, wait], [], []))

    def test_things_of_every_kind_in_a_wait(self):
        for thing in things_of_every_kind():
            if thing not in (0, 1) or isinstance(thing, bool):
                self.is_none((WORKS, [(thing, 2, (0, 1))], [], []), "waits", 0)
                self.is_none((WORKS, [(2, thing, (0, 1))], [], []), "waits", 0)
            self.is_none((WORKS, [(0, 2, thing)], [], []), "waits", 0)

    def test_holds(self):
        wrong = [["by", 0, (0, 1)], ("by", 0), ("by", 0, (0, 1), 0), ("to", 0, (0, 1)), ("By", 0, (0, 1))]
        wrong += [("", 0, (0, 1)), (b"by", 0, (0, 1)), (None, 0, (0, 1)), (["by"], 0, (0, 1))]
        wrong += [("by", 6, (0, 1)), ("by", -1, (0, 1))]
        wrong += [("by", True, (0, 1)), ("by", "a", (0, 1)), ("by", 0, 0), ("by", 0, (2, 2)), ("by", 0, [0, 1])]
        for hold in wrong:
            self.is_none((WORKS, [], [hold], []), "holds", 0)
            self.is_none((WORKS, WAITS, HOLDS + [hold, None] + HOLDS, None), "holds", 4)
        for kind in ("from", "till", "by"):
            self.is_net((WORKS, [], [(kind, 5, (-1, 3)), (kind, 0, (0, 1))], []))

    def test_things_of_every_kind_in_a_hold(self):
        for thing in things_of_every_kind():
            self.is_none((WORKS, [], [(thing, 0, (0, 1))], []), "holds", 0)
            self.is_none((WORKS, [], [("from", 0, thing)], []), "holds", 0)
            if thing not in (0, 1) or isinstance(thing, bool):
                self.is_none((WORKS, [], [("from", thing, (0, 1))], []), "holds", 0)

    def test_groups(self):
        wrong = [(0, 1), [0], [], [0, 0], [0, 1, 0], [0, 6], [-1, 0], [0, True], [False, 1], [0, None], [0, "b"]]
        for group in wrong + [[[0], [1]], [0, 2], [0, 4], [4, 0], [2, 3, 5], [0, 1, 4]]:
            self.is_none((WORKS, [], [], [group]), "groups", 0)
            self.is_none((WORKS, WAITS, HOLDS, [group, None]), "groups", 0)
        for group in [[0, 1, 5], [5, 1], [3, 2]]:
            self.is_net((WORKS, [], [], [group]))

    def test_a_work_in_two_groups(self):
        self.is_none((WORKS, [], [], [[0, 1], [5, 0]]), "groups", 1)
        self.is_none((WORKS, [], [], [[0, 5], [2, 3], [1, 5]]), "groups", 2)
        self.is_none((WORKS, [], [], [[0, 5], [0, 5], None]), "groups", 1)

    def test_straight_offers_stand_in_no_group(self):
        works = [("a", SLOPE), ("b", SLOPE), ("c", steps((4, 0), (1, 6)))]
        for group in ([0, 1], [0, 2], [2, 1]):
            self.is_none((works, [], [], [group]), "groups", 0)

    def test_the_first_part_that_is_none(self):
        self.is_none(([None], None, None, None), "works", 0)
        self.is_none((None, [None], None, None), "works", None)
        self.is_none((WORKS, [None], None, None), "waits", 0)
        self.is_none((WORKS, None, [None], None), "waits", None)
        self.is_none((WORKS, WAITS, [None], None), "holds", 0)
        self.is_none((WORKS, WAITS, None, [None]), "holds", None)
        self.is_none((WORKS, WAITS, HOLDS, [None]), "groups", 0)
        self.is_none((WORKS, WAITS, HOLDS, None), "groups", None)


class TestSmoothedNet(Asking):
    def test_straight(self):
        self.assertIs(self.asked(is_straight, NET), False)
        self.assertIs(self.asked(is_straight, ([("a", SLOPE), ("b", SLOPE)], [], [], [])), True)
        self.assertIs(self.asked(is_straight, ([("a", SLOPE), ("b", PAIR)], [], [], [])), False)
        self.assertIs(self.asked(is_straight, ([("b", PAIR), ("a", SLOPE)], [], [], [])), False)
        self.assertIs(self.asked(is_straight, ([("b", steps((1, 1)))], [], [], [])), False)

    def test_smoothed(self):
        made = self.asked(smoothed_net, NET)
        flat = straight((4, 0), (2, 9))
        names = [("a", flat), ("b", flat), ("c", flat), ("d", flat), ("e", SLOPE), ("f", flat)]
        self.assertEqual(made, (names, WAITS, HOLDS, []))
        self.assertIsNone(look_at_net(made))
        self.assertIs(is_straight(made), True)
        self.assertEqual(self.asked(smoothed_net, made), made)

    def test_lists_of_its_own_though_those_handed_in_are_shared(self):
        nothing = []
        shared = ([("a", SLOPE), ("b", SLOPE), ("c", PAIR), ("d", PAIR)], nothing, nothing, nothing)
        made = smoothed_net(shared)
        self.watch_lists(made, shared)
        self.assertEqual(made[1:], ([], [], []))


if __name__ == "__main__":
    unittest.main()
