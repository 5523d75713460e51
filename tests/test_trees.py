"""Promises 10.2 to 10.5: trees walked, what they claim, NoTree with its way, the leaves."""

import unittest

from hurryprice.choices import chosen_net
from hurryprice.claims import claims_of
from hurryprice.errors import NoTree
from hurryprice.nets import is_straight, look_at_net
from hurryprice.plans import price_of
from hurryprice.stairs import least_plan
from hurryprice.trees import leaves_of, tree_claim
from tests.asking import Asking, Plain, chance, frac, part, steps, straight, things_of_every_kind
from tests.samples import net_around, random_paper
from tests.stairrules import spoilt
from tests.treerules import NET, is_split, tuples_in, walk_by_rules

NOTHING = ("line", [])
# From a's start through b to c's end, four for each unit.
CHAIN = [(("start", 0), (4, 1)), (("wait", 0), (4, 1)), (("wait", 1), (4, 1)), (("end", 2), (4, 1))]
LONG_D = [(("start", 3), (1, 1)), (("end", 3), (1, 1))]
ONE = ([("a", steps((5, 0), (3, 4), (2, 9)))], [], [], [])
A = [(("start", 0), (2, 1)), (("end", 0), (2, 1))]
# Four works of five corners, one of two, one of one.
WIDE = ([("abcd"[at], steps((9, 0), (8, 1), (7, 2), (6, 3), (5, 4))) for at in range(4)]
        + [("e", steps((2, 0), (1, 1))), ("f", steps((2, 5)))], [], [], [])


class TestTree(Asking):
    def claims(self, net, whole, below, tree, claim):
        self.assertEqual(self.asked(tree_claim, net, whole, below, tree), claim)
        self.assertEqual(walk_by_rules(net, whole, below, tree)[2], claim)

    def wrong(self, net, whole, below, thing, way):
        for tell in (tree_claim, leaves_of):
            error = self.refused(NoTree, tell, net, whole, below, thing)
            self.assertIs(type(error.way), list)
            self.assertEqual(error.way, way)

    def test_one_line(self):
        for below in (True, False):
            self.claims(NET, (3, 1), below, NOTHING, ("least", (4, 1)))
            # By amounts of 4: a 4 * 2 + 6, b 4 * 3 + 1, c 4 * 2 + 1; d and e for nothing and 3; the waits less 2.
            self.claims(NET, (3, 1), below, ("line", CHAIN), ("least", (25, 1)))
            self.claims(NET, (0, 1), below, ("line", CHAIN), ("least", (37, 1)))
            self.claims(NET, (100, 1), below, ("line", CHAIN), ("least", (-363, 1)))

    def test_one_bar_that_just_bars(self):
        # Quick times: a 2, b 1, c 1, the waits -1/2 together.
        for below in (True, False):
            self.claims(NET, (3, 1), below, ("bar", CHAIN), ("none",))
            self.claims(NET, (0, 1), below, ("bar", CHAIN), ("none",))
            self.wrong(NET, (4, 1), below, ("bar", CHAIN), [])
        self.claims(NET, (7, 2), True, ("bar", CHAIN), ("none",))
        self.wrong(NET, (7, 2), False, ("bar", CHAIN), [])
        minute = part(frac((7, 2)) + frac((1, 10 ** 50)))
        self.wrong(NET, minute, True, ("bar", CHAIN), [])

    def test_bars_of_the_rate_nought(self):
        ring = ([("a", steps((3, 0), (1, 4))), ("b", straight((1, 0)))], [(0, 1, (0, 1)), (1, 0, (-2, 1))], [], [])
        round_it = [(("wait", 0), (1, 1)), (("wait", 1), (1, 1))]
        self.assertEqual(claims_of(ring, round_it)[1:], ((0, 1), (0, 1)))
        for below in (True, False):
            for whole in ((0, 1), (9, 1)):
                self.wrong(ring, whole, below, ("bar", round_it), [])
                self.wrong(ring, whole, below, ("bar", []), [])
                good = ("split", 0, [("bar", round_it), ("line", round_it)])
                self.claims(ring, whole, below, good, ("least", (4, 1)))
                self.wrong(ring, whole, below, ("split", 0, [("bar", round_it), ("bar", round_it)]), [1])

    def test_splits(self):
        tree = ("split", 0, [("bar", A), ("line", []), ("line", A)])
        for whole in ((4, 1), (19, 4)):
            self.claims(ONE, whole, False, tree, ("least", part(min(4, 9 + 4 - 2 * frac(whole)))))
        self.claims(ONE, (5, 1), True, tree, ("least", (3, 1)))
        self.wrong(ONE, (5, 1), False, tree, [0])
        self.claims(ONE, (2, 1), True, ("split", 0, [("bar", A), ("bar", A), ("bar", A)]), ("none",))
        self.claims(ONE, (1, 1), False, ("split", 0, [("bar", A), ("bar", A), ("bar", A)]), ("none",))
        self.wrong(ONE, (2, 1), False, ("split", 0, [("bar", A), ("bar", A), ("bar", A)]), [2])

    def test_a_split_takes_the_group_along(self):
        bar = [(("start", 1), (1, 1)), (("end", 1), (1, 1))]
        self.claims(NET, (5, 2), False, ("split", 3, [("bar", bar), NOTHING]), ("least", (14, 1)))
        self.claims(NET, (5, 1), False, ("split", 1, [("bar", LONG_D), NOTHING]), ("least", (14, 1)))
        self.wrong(NET, (5, 1), False, ("split", 1, [NOTHING, ("bar", LONG_D)]), [1])
        for one, other in ((1, 3), (3, 1), (1, 1), (3, 3), (2, 2)):
            many = 3 if one == 2 else 2
            within = ("split", other, [NOTHING] * many)
            self.wrong(NET, (5, 1), False, ("split", one, [NOTHING] * (many - 1) + [within]), [many - 1])
        leaves = leaves_of(NET, (5, 1), False, ("split", 3, [NOTHING, ("split", 2, [NOTHING] * 3)]))
        self.assertEqual(leaves, [({1: 0, 3: 0}, NOTHING)] + [({1: 1, 3: 1, 2: at}, NOTHING) for at in range(3)])

    def test_splits_that_are_none(self):
        some = [NOTHING, NOTHING]
        for wrong in (("split", 0, some), ("split", 5, some), ("split", -1, some), ("split", True, some),
                      ("split", "1", some), ("split", (1,), some), ("split", None, some), ("split", [], some),
                      ("split", 1, some[:1]), ("split", 1, some * 2), ("split", 1, []), ("split", 1, tuple(some)),
                      ("split", 1, {0: NOTHING, 1: NOTHING}), ("split", 1, None), ("split", 1, NOTHING), ("split", 1),
                      ("split", 1, some, []), ["split", 1, some], ("split", 1, "ab"), ("Split", 1, some),
                      (b"split", 1, some), ("line", 1, some), (None, 1, some)):
            for below in (True, False):
                self.wrong(NET, (5, 1), below, wrong, [])
                self.wrong(NET, (5, 1), below, ("split", 2, [NOTHING, wrong, NOTHING]), [1])
        self.claims(NET, (5, 1), False, ("split", 4, [NOTHING]), ("least", (4, 1)))

    def test_leaves_that_are_none(self):
        broken = CHAIN[:-1]
        for wrong in (("line", broken), ("bar", broken), ("line", None), ("line", CHAIN * 2), ("line", tuple(CHAIN)),
                      ("line",), ("line", [], []), ["line", []], ("Line", []), ("lin", []), (b"line", []), (0, []),
                      (None, []), ("none", []), ("bar", []), ("line", {}), ("line", ""), ("line", [None]),
                      ("bars", CHAIN), ("line", [(("wait", 2), (1, 1))]), ("line", [(("start", 5), (1, 1))]), ([], []),
                      ({}, CHAIN)):
            for below in (True, False):
                self.wrong(NET, (5, 1), below, wrong, [])
                self.wrong(NET, (5, 1), below, ("split", 2, [NOTHING, NOTHING, wrong]), [2])

    def test_things_of_every_kind(self):
        for thing in things_of_every_kind() + [Plain()]:
            self.wrong(NET, (5, 1), False, thing, [])
            self.wrong(NET, (5, 1), True, ("split", 2, [NOTHING, ("split", 1, [thing, NOTHING]), NOTHING]), [1, 0])

    def test_the_first_one_that_can_not_stand(self):
        bad = ("bar", [])
        deep = ("split", 4, [bad])
        self.wrong(NET, (5, 1), False, ("split", 2, [NOTHING, deep, bad]), [1, 0])
        self.wrong(NET, (5, 1), False, ("split", 2, [deep, bad, deep]), [0, 0])
        self.wrong(NET, (5, 1), False, ("split", 2, [NOTHING, ("split", 1, [NOTHING, deep]), bad]), [1, 1, 0])
        # A split that is none is told ahead of what stands in its trees.
        self.wrong(NET, (5, 1), False, ("split", 2, [bad, bad]), [])
        self.wrong(NET, (5, 1), False, ("split", 2, [NOTHING, ("split", 0, [bad, bad]), bad]), [1])

    def test_a_tree_that_holds_itself(self):
        trees = [NOTHING, NOTHING]
        trees[1] = ("split", 1, trees)
        with self.assertRaises(NoTree) as caught:
            tree_claim(NET, (5, 1), False, ("split", 1, trees))
        self.assertEqual(caught.exception.way, [1])

    def test_good_ones_spoilt_in_one_place(self):
        bars = [("bar", CHAIN), ("split", 1, [("bar", CHAIN), ("bar", CHAIN)]), ("bar", CHAIN)]
        good = ("split", 2, bars)
        self.claims(NET, (3, 1), False, good, ("none",))
        for wrong in spoilt(good):
            told = walk_by_rules(NET, (3, 1), False, wrong)
            self.assertEqual(told[0], "wrong")
            self.wrong(NET, (3, 1), False, wrong, told[1])

    def test_five_hundred_tuples_and_one_more(self):
        def cut(depth):
            if depth == 0:
                return NOTHING
            return ("split", 3 - depth, [cut(depth - 1) for number in range(5)])

        def lengthened(tree, works):
            """The tree with the first lines split by these works, one each."""
            if tree == NOTHING and works:
                work = works.pop(0)
                return ("split", work, [NOTHING] * len(WIDE[0][work][1][1]))
            if tree[0] == "split":
                return ("split", tree[1], [lengthened(one, works) for one in tree[2]])
            return tree

        self.assertIsNone(look_at_net(WIDE))
        full = lengthened(cut(3), [3] * 68 + [4] * 2)
        self.assertEqual(tuples_in(full), 500)
        self.claims(WIDE, (5, 1), False, full, ("least", (5, 1)))
        self.assertEqual(len(leaves_of(WIDE, (5, 1), True, full)), 500 - 1 - 5 - 25 - 70)
        more = lengthened(cut(3), [3] * 68 + [4] * 2 + [5])
        self.assertEqual(tuples_in(more), 501)
        self.wrong(WIDE, (5, 1), False, more, [4, 4, 4])
        # What lies beyond isn't looked at; what lies ahead is.
        spoilt_beyond = ("split", 0, more[2][:4] + [("split", 1, more[2][4][2][:4] + [
            ("split", 2, more[2][4][2][4][2][:4] + [None])])])
        self.wrong(WIDE, (5, 1), False, spoilt_beyond, [4, 4, 4])
        self.wrong(WIDE, (5, 1), False, ("split", 0, more[2][:4] + [None]), [4])
        # 6 + 68 * 6 tuples or more: a split among the first ones moves the five hundredth.
        early = lengthened(cut(3), [5] + [3] * 68 + [4] * 2)
        self.wrong(WIDE, (5, 1), False, early, [4, 4, 4])
        two_more = lengthened(cut(3), [3] * 69)
        self.wrong(WIDE, (5, 1), False, two_more, [4, 4, 4])
        self.assertEqual(tuples_in(two_more), 501)

    def test_one_tuple_that_stands_several_times(self):
        within = ("split", 3, [NOTHING] * 5)
        within = ("split", 2, [within] * 5)
        within = ("split", 1, [within] * 5)
        self.assertEqual(self.asked(tree_claim, WIDE, (5, 1), False, within), ("least", (5, 1)))
        leaves = leaves_of(WIDE, (5, 1), False, within)
        self.assertEqual(len(leaves), 125)
        self.watch_lists(leaves, within)
        self.wrong(WIDE, (5, 1), False, ("split", 0, [within] * 5), walk_by_rules(
            WIDE, (5, 1), False, ("split", 0, [within] * 5))[1])

    def test_the_way_is_the_error_s_own(self):
        bad = ("split", 2, [NOTHING, NOTHING, None])
        first = self.refused(NoTree, tree_claim, NET, (5, 1), False, bad)
        first.way.append(7)
        self.assertEqual(self.refused(NoTree, tree_claim, NET, (5, 1), False, bad).way, [2])


class TestLeaves(Asking):
    def test_in_the_order_of_the_walk(self):
        tree = ("split", 2, [("line", CHAIN), ("split", 1, [("bar", CHAIN), NOTHING]), ("split", 4, [("bar", CHAIN)])])
        self.assertEqual(self.asked(leaves_of, NET, (7, 2), True, tree), [
            ({2: 0}, ("line", CHAIN)),
            ({2: 1, 1: 0, 3: 0}, ("bar", CHAIN)),
            ({2: 1, 1: 1, 3: 1}, NOTHING),
            ({2: 2, 4: 0}, ("bar", CHAIN)),
        ])

    def test_a_tree_of_one_leaf(self):
        for leaf in (NOTHING, ("line", CHAIN), ("bar", CHAIN)):
            self.assertEqual(self.asked(leaves_of, NET, (7, 2), True, leaf), [({}, leaf)])


def random_tree(source, net, whole, choice):
    """A tree by chance; now and then something in it can't stand."""
    free = [work for work in range(len(net[0])) if is_split(net, choice, ("split", work, net[0][work][1][1]))]
    if free and source.random() < 0.6:
        work = source.choice(free)
        trees = []
        for at in range(len(net[0][work][1][1])):
            bound = [other for group in net[3] if work in group for other in group]
            trees.append(random_tree(source, net, whole, {**choice, **{other: at for other in [work] + bound}}))
        if source.random() < 0.03:
            trees.pop()
        return ("split", work if source.random() < 0.97 else source.randrange(len(net[0])), trees)
    chosen = chosen_net(net, choice)
    if is_straight(chosen) and source.random() < 0.9:
        told = least_plan(chosen, whole)
        return ("line", told[3]) if told[0] == "plan" else told
    return (source.choice(["line"] * 20 + ["bar"]), random_paper(source, net))


class TestTreesByChance(Asking):
    def test_against_the_rules_and_against_plans(self):
        source = chance(1004)
        seen = {"wrong": 0, "least": 0, "none": 0}
        for number in range(400):
            net, plans, whole = net_around(source, ("steps", "steps", "straight"), 4, 2)
            if source.random() < 0.4:
                whole = part(frac(whole) / 5)
            below = source.random() < 0.5
            tree = random_tree(source, net, whole, {})
            told = walk_by_rules(net, whole, below, tree)
            if told[0] == "wrong":
                seen["wrong"] += 1
                self.assertEqual(self.refused(NoTree, tree_claim, net, whole, below, tree).way, told[1])
                self.assertEqual(self.refused(NoTree, leaves_of, net, whole, below, tree).way, told[1])
                continue
            claim = self.asked(tree_claim, net, whole, below, tree)
            seen[claim[0]] += 1
            self.assertEqual(claim, told[2])
            self.assertEqual(self.asked(leaves_of, net, whole, below, tree), told[1])
            for plan in plans:
                end = max(frac(start) + frac(time) for start, time in plan)
                if end < frac(whole) or (end == frac(whole) and not below):
                    self.assertEqual(claim[0], "least")
                    self.assertGreaterEqual(frac(price_of(net, plan)), frac(claim[1]))
        self.assertGreater(min(seen.values()), 4, seen)


if __name__ == "__main__":
    unittest.main()
