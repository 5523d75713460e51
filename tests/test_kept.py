"""Promises 12.3 to 12.6: pieces of a stair that stay, with their more; quick; stairs mended; refusals (0.4 h)."""

import unittest

from hurryprice.changes import carried_paper, carried_plan, changed
from hurryprice.claims import claimed, claims_of
from hurryprice.errors import NoChange, NotStraight
from hurryprice.kept import mended, stays
from hurryprice.plans import first_broken, mixed, price_of
from hurryprice.shapes import price_at, shape_of
from hurryprice.stairlook import lets_stair
from hurryprice.stairs import stair_of
from tests.asking import Asking, Plain, chance, frac, part, steps, straight, things_of_every_kind
from tests.samples import random_offer
from tests.stairrules import FIXED, ROW, planned_net, random_net, ring_net
from tests.test_changes import random_change

# ROW's bends: (7/2, 15), (11/2, 7), (15/2, 1), with the rates 4, 3 and 0.
STAIR = stair_of(ROW)
RING = ([("a", straight((2, 0))), ("b", straight((1, 0)))], [(0, 1, (0, 1)), (1, 0, (-2, 1))], [], [])


def by_rules(net, stair, change):
    """What 12.3 says, word by word."""
    made = changed(net, change)
    if stair[0] == "none":
        carried = carried_paper(net, change, stair[1])
        return ([], carried is not None and frac(claims_of(made, carried)[2]) > 0)
    word, bends, papers, bar = stair
    pieces = []
    for at, paper in enumerate(papers):
        carried = carried_paper(net, change, paper)
        if carried is None:
            continue
        mores = {frac(claimed(made, carried, whole)) - frac(claimed(net, paper, whole))
                 for whole in ((0, 1), (1, 1), (77, 3))}
        plans = [(whole, price, carried_plan(net, change, plan)) for whole, price, plan in bends[at:at + 2]]
        more = mores.pop()
        if not mores and all(first_broken(made, plan, whole) is None
                             and frac(price_of(made, plan)) == frac(price) + more for whole, price, plan in plans):
            pieces.append((at, part(more)))
    carried = carried_paper(net, change, bar)
    if carried is None:
        return (pieces, False)
    price, rate, length = claims_of(made, carried)
    return (pieces, frac(length) >= frac(rate) * frac(bends[0][0]))


class Keeping(Asking):
    def told(self, net, stair, change, pieces, quick):
        told = self.asked(stays, net, stair, change)
        self.assertEqual(told, (pieces, quick))
        self.assertEqual(by_rules(net, stair, change), told)
        made, new, again, same = self.asked(mended, net, stair, change)
        self.assertEqual(made, changed(net, change))
        self.assertIs(lets_stair(made, new), True)
        self.assertEqual((again, same), told)


class TestStays(Keeping):
    def test_all_stay(self):
        for change in (("wait", (0, 1, (1, 4))), ("hold", ("from", 0, (0, 1))), ("hold", ("by", 1, (15, 2))),
                       ("wait", (1, 0, (-100, 1))), ("lag", 0, (1, 2))):
            self.told(ROW, STAIR, change, [(0, (0, 1)), (1, (0, 1)), (2, (0, 1))], True)

    def test_a_work_more(self):
        # Within its whole the new work's long time must be: at the first bends there is no room for it.
        for long, kept in (("7/2", (0, 1, 2)), (4, (1, 2)), ("11/2", (1, 2)), (6, (2,)), ("15/2", (2,)), (8, ())):
            change = ("work", ("more", straight((long, 5))))
            self.told(ROW, STAIR, change, [(at, (5, 1)) for at in kept], True)

    def test_a_more_below_nought(self):
        more = changed(ROW, ("work", ("more", straight((1, 5)))))
        self.told(more, stair_of(more), ("gone", 2), [(0, (-5, 1)), (1, (-5, 1)), (2, (-5, 1))], True)
        cheaper = ("offer", 1, straight((3, "1/2"), (1, "17/2")))
        self.told(ROW, STAIR, cheaper, [(0, (-1, 2)), (1, (-1, 2)), (2, (-1, 2))], True)

    def test_some_stay(self):
        # pour is dearer to hurry: what lies where it isn't hurried stays.
        self.told(ROW, STAIR, ("offer", 1, straight((3, 1), (1, 11))), [(1, (0, 1)), (2, (0, 1))], True)
        # It can be hurried more: the first bend has a new one ahead, but the pieces are all there.
        quicker = ("offer", 1, straight((3, 1), (1, 9), ("1/2", 12)))
        self.told(ROW, STAIR, quicker, [(0, (0, 1)), (1, (0, 1)), (2, (0, 1))], False)
        # dig can't be hurried as much.
        self.told(ROW, STAIR, ("offer", 0, straight((4, 0), (3, 3))), [(2, (0, 1))], True)
        self.told(ROW, STAIR, ("offer", 0, straight((4, 0), (3, 3), (2, 9))), [(2, (0, 1))], True)

    def test_a_plan_that_keeps_no_longer_all(self):
        # The papers claim what they did, but the plans break the new wish.
        for change, kept in ((("hold", ("by", 1, (7, 1))), (0,)), (("hold", ("by", 1, (11, 2))), (0,)),
                             (("hold", ("by", 1, (5, 1))), ()), (("wait", (0, 1, (1, 1))), ()),
                             (("hold", ("from", 1, (4, 1))), (2,))):
            pieces, quick = stays(ROW, STAIR, change)
            self.assertEqual([at for at, more in pieces], list(kept), change)
            self.told(ROW, STAIR, change, [(at, (0, 1)) for at in kept], True)

    def test_a_bar_that_goes(self):
        self.told(ROW, STAIR, ("unwait", 0), [(2, (0, 1))], False)
        self.told(ROW, STAIR, ("gone", 0), [(2, (0, 1))], False)
        self.told(ROW, STAIR, ("gone", 1), [(2, (-1, 1))], False)

    def test_a_lag_that_is_more_or_less(self):
        self.told(ROW, STAIR, ("lag", 0, (1, 1)), [], True)
        self.told(ROW, STAIR, ("lag", 0, (1, 4)), [(2, (0, 1))], False)

    def test_one_bend(self):
        stair = stair_of(FIXED)
        self.told(FIXED, stair, ("offer", 0, straight((5, 3))), [(0, (1, 1))], True)
        self.told(FIXED, stair, ("offer", 0, straight((5, 2), (4, 3))), [(0, (0, 1))], False)
        self.told(FIXED, stair, ("offer", 0, straight((6, 2))), [], True)
        self.told(FIXED, stair, ("hold", ("till", 0, (0, 1))), [(0, (0, 1))], True)

    def test_none(self):
        stair = stair_of(RING)
        self.assertEqual(stair[0], "none")
        for change, quick in ((("lag", 1, (-5, 2)), True), (("lag", 1, (-3, 1)), False), (("lag", 1, (-4, 1)), False),
                              (("unwait", 0), False), (("gone", 0), False), (("hold", ("by", 0, (1, 1))), True),
                              (("work", ("c", straight((9, 9)))), True),
                              (("offer", 0, straight((3, 0), (1, 1))), False)):
            self.told(RING, stair, change, [], quick)

    def test_stairs_by_others(self):
        # A plan that isn't the told one, a paper that carries more than is needed for the bar.
        word, bends, papers, bar = STAIR
        double = [(arc, (2 * amount[0], amount[1])) for arc, amount in bar]
        other = (word, bends, papers, double)
        self.assertIs(lets_stair(ROW, other), True)
        self.told(ROW, other, ("lag", 0, (1, 2)), [(0, (0, 1)), (1, (0, 1)), (2, (0, 1))], True)
        self.told(ROW, other, ("lag", 0, (1, 4)), [(2, (0, 1))], False)


class TestRefused(Keeping):
    def test_no_change_ahead_of_all_else(self):
        stepped = ([("dig", steps((4, 0), (2, 6)))], [], [], [])
        for thing in things_of_every_kind() + [Plain(), ("gone", 2), ("offer", 0, None), ("unwait", 1)]:
            for tell in (stays, mended):
                self.refused(NoChange, tell, ROW, STAIR, thing)
                self.refused(NoChange, tell, stepped, STAIR, thing)
        for tell in (stays, mended):
            self.refused(NoChange, tell, FIXED, stair_of(FIXED), ("gone", 0))

    def test_nets_that_are_not_straight(self):
        stepped = ([("dig", steps((4, 0), (2, 6)))], [], [], [])
        for tell in (stays, mended):
            self.refused(NotStraight, tell, ROW, STAIR, ("offer", 0, steps((4, 0), (2, 6))))
            self.refused(NotStraight, tell, ROW, STAIR, ("work", ("more", steps((4, 0)))))
            self.refused(NotStraight, tell, stepped, STAIR, ("hold", ("by", 0, (1, 1))))
            # The changed net is straight, the net isn't.
            self.refused(NotStraight, tell, stepped, STAIR, ("offer", 0, straight((4, 0))))


class TestByChance(Keeping):
    def test_where_pieces_stay_the_stair_is_the_old_one(self):
        source = chance(123)
        seen = {"pieces": 0, "more": 0, "less": 0, "quick": 0, "slow": 0, "none": 0}
        for number in range(500):
            make = source.choice([random_net, planned_net, lambda source, most: ring_net(source)])
            net = make(source, 4)
            change = self.change_of(source, net)
            stair = stair_of(net)
            told = self.asked(stays, net, stair, change)
            self.assertEqual(told, by_rules(net, stair, change))
            made, new, pieces, quick = mended(net, stair, change)
            self.assertIs(lets_stair(made, new), True)
            self.assertEqual((pieces, quick), told)
            seen["none"] += stair[0] == "none"
            seen["quick" if quick else "slow"] += 1
            if stair[0] == "stair":
                self.alike(stair, new, pieces, quick, seen)
            elif quick:
                self.assertEqual(new[0], "none")
        self.assertGreater(min(seen.values()), 9, seen)

    def change_of(self, source, net):
        while True:
            change = random_change(source, net)
            if source.random() < 0.3:
                at = source.randrange(len(net[0]))
                kind, corners = net[0][at][1]
                change = ("offer", at, (kind, [(time, part(frac(price) + 2)) for time, price in corners]))
            elif change[0] in ("offer", "work"):
                offer = random_offer(source, "straight")
                change = ("offer", change[1], offer) if change[0] == "offer" else ("work", (change[1][0], offer))
            try:
                changed(net, change)
                return change
            except NoChange:
                continue

    def alike(self, stair, new, pieces, quick, seen):
        bends = stair[1]
        for at, more in pieces:
            seen["pieces"] += 1
            seen["more"] += more[0] > 0
            seen["less"] += more[0] < 0
            later = bends[at + 1] if at + 1 < len(bends) else (part(frac(bends[at][0]) + 5), bends[at][1])
            for share in ((0, 1), (1, 3), (1, 1)):
                (whole, price), = mixed([bends[at][:2]], [later[:2]], share)
                self.assertEqual(new[0], "stair")
                self.assertEqual(frac(price_at(shape_of(new), whole)), frac(price) + frac(more))
        if quick and new[0] == "stair":
            self.assertGreaterEqual(frac(new[1][0][0]), frac(bends[0][0]))


if __name__ == "__main__":
    unittest.main()
