"""Promises 12.1, 12.2 and the first half of 12.6: nets changed; plans and papers carried; NoChange."""

import unittest

from hurryprice.changes import carried_paper, carried_plan, changed
from hurryprice.errors import NoChange, NoNet
from hurryprice.nets import look_at_net
from hurryprice.papers import look_at_paper
from tests.asking import Asking, Plain, chance, frac, part, steps, straight, things_of_every_kind
from tests.samples import net_around, random_offer, random_paper
from tests.stairrules import spoilt

DIG, POUR = straight((4, 0), (2, 6)), steps((3, 1), (1, 9))
WORKS = [("dig", DIG), ("pour", POUR), ("set", steps((5, 0), (2, 1))), ("dry", steps((6, 0))), ("end", POUR)]
WAITS = [(0, 1, (1, 2)), (1, 2, (-1, 1)), (3, 4, (0, 1)), (0, 1, (2, 1))]
HOLDS = [("from", 0, (1, 1)), ("by", 2, (50, 1)), ("till", 4, (9, 1))]
NET = (WORKS, WAITS, HOLDS, [[4, 1, 2]])
PLAN = [((1, 1), (3, 1)), ((5, 1), (3, 1)), ((8, 1), (5, 1)), ((0, 1), (6, 1)), ((6, 1), (3, 1))]
PAPER = [(("end", 2), (3, 1)), (("start", 0), (2, 1)), (("hold", 0), (1, 1)), (("wait", 1), (3, 1)),
         (("wait", 3), (1, 1)), (("wait", 0), (2, 1))]
FULL = ([("abcdefghij"[at], steps((2, 0), (1, 1))) for at in range(10)],
        [(at % 9, 9, (at, 1)) for at in range(40)], [("by", at % 10, (90 + at, 1)) for at in range(40)],
        [[0, 1], [2, 3], [4, 5], [6, 7]])


class Changing(Asking):
    def makes(self, net, change, works=None, waits=None, holds=None, groups=None):
        """The changed net is the old one but for the parts that are told."""
        told = self.asked(changed, net, change)
        parts = [old if new is None else new for old, new in zip(net, (works, waits, holds, groups))]
        self.assertEqual(told, tuple(parts))
        self.assertIsNone(look_at_net(told))

    def refuses(self, net, *changes):
        for change in changes:
            self.refused(NoChange, changed, net, change)
            self.refused(NoChange, carried_plan, net, change, PLAN)
            self.refused(NoChange, carried_paper, net, change, PAPER)


class TestWorks(Changing):
    def test_offer(self):
        for at, work in enumerate(WORKS):
            offer = POUR if at in (1, 2, 4) else straight((7, 1), (6, 2))
            self.makes(NET, ("offer", at, offer), works=WORKS[:at] + [(work[0], offer)] + WORKS[at + 1:])
        self.refuses(NET, ("offer", 5, POUR), ("offer", -1, POUR), ("offer", True, POUR), ("offer", "0", POUR),
                     ("offer", 0, None), ("offer", 0, []), ("offer", 0, ("steps", [])), ("offer", 0), ("offer",),
                     ("offer", 0, POUR, None), ("offer", 0, straight((4, 0), (2, 6), (0, 7))))

    def test_an_offer_in_a_group(self):
        # It goes by steps, with as many corners.
        self.refuses(NET, ("offer", 1, straight((3, 1), (1, 9))), ("offer", 4, steps((3, 1))),
                     ("offer", 2, steps((3, 1), (2, 2), (1, 3))))
        self.makes(NET[:3] + ([],), ("offer", 4, steps((3, 1))), works=WORKS[:4] + [("end", steps((3, 1)))])

    def test_work(self):
        for work in (("more", POUR), ("wait", DIG), ("a", steps((0, 0)))):
            self.makes(NET, ("work", work), works=WORKS + [work])
        self.refuses(NET, ("work", ("dig", POUR)), ("work", ("end", POUR)), ("work", ("Dig", POUR)), ("work", None),
                     ("work", ["more", POUR]), ("work", ("more", POUR, 1)), ("work", ("more", None)), ("work",),
                     ("work", "more", POUR), ("work", ("more", ("steps", []))), ("work", ("", POUR)))

    def test_the_tenth_work_and_the_eleventh(self):
        nine = self.asked(changed, FULL, ("gone", 9))
        self.makes(nine, ("work", ("k", POUR)), works=FULL[0][:9] + [("k", POUR)])
        self.refuses(FULL, ("work", ("k", POUR)))

    def test_gone(self):
        self.makes(NET, ("gone", 0), works=WORKS[1:], waits=[(0, 1, (-1, 1)), (2, 3, (0, 1))],
                   holds=[("by", 1, (50, 1)), ("till", 3, (9, 1))], groups=[[3, 0, 1]])
        self.makes(NET, ("gone", 1), works=WORKS[:1] + WORKS[2:], waits=[(2, 3, (0, 1))],
                   holds=[("from", 0, (1, 1)), ("by", 1, (50, 1)), ("till", 3, (9, 1))], groups=[[3, 1]])
        self.makes(NET, ("gone", 3), works=WORKS[:3] + WORKS[4:], waits=[WAITS[0], WAITS[1], WAITS[3]],
                   holds=[("from", 0, (1, 1)), ("by", 2, (50, 1)), ("till", 3, (9, 1))], groups=[[3, 1, 2]])
        self.makes(NET, ("gone", 4), works=WORKS[:4], waits=[WAITS[0], WAITS[1], WAITS[3]], holds=HOLDS[:2],
                   groups=[[1, 2]])
        self.refuses(NET, ("gone", 5), ("gone", -1), ("gone", None), ("gone", False), ("gone", (0, 1)), ("gone",),
                     ("gone", 0, 0), ("gone", "dig"))

    def test_a_group_that_is_left_with_one_work_goes(self):
        two = NET[:3] + ([[4, 1]],)
        self.makes(two, ("gone", 4), works=WORKS[:4], waits=[WAITS[0], WAITS[1], WAITS[3]], holds=HOLDS[:2], groups=[])
        self.assertEqual(self.asked(changed, two, ("gone", 0))[3], [[3, 0]])
        self.assertEqual(self.asked(changed, FULL, ("gone", 3))[3], [[0, 1], [3, 4], [5, 6]])
        self.assertEqual(self.asked(changed, FULL, ("gone", 0))[3], [[1, 2], [3, 4], [5, 6]])

    def test_the_last_work_of_all(self):
        self.refuses(([("a", POUR)], [], [], []), ("gone", 0))


class TestWaits(Changing):
    def test_wait(self):
        for wait in ((0, 4, (0, 1)), (4, 0, (-7, 3)), (0, 1, (1, 2))):
            self.makes(NET, ("wait", wait), waits=WAITS + [wait])
        self.refuses(NET, ("wait", (0, 0, (1, 1))), ("wait", (0, 5, (1, 1))), ("wait", (-1, 0, (1, 1))), ("wait", None),
                     ("wait", (0, 1, (2, 4))), ("wait", (0, 1)), ("wait", [0, 1, (1, 1)]), ("wait", 0, 1, (1, 1)),
                     ("wait", (True, 0, (1, 1))), ("wait",), ("wait", (0, 1, 1)))

    def test_lag(self):
        for at in (0, 1, 3):
            one, other, lag = WAITS[at]
            for new in ((-5, 3), (0, 1), (10 ** 59, 7)):
                self.makes(NET, ("lag", at, new), waits=WAITS[:at] + [(one, other, new)] + WAITS[at + 1:])
        self.refuses(NET, ("lag", 4, (1, 1)), ("lag", -1, (1, 1)), ("lag", True, (1, 1)), ("lag", 0, 1), ("lag", 0),
                     ("lag", 0, None), ("lag", 0, (2, 2)), ("lag", 0, (1, 1), 0), ("lag", "0", (1, 1)),
                     ("lag", 0, (1, 0)))

    def test_unwait(self):
        for at in (0, 1, 3):
            self.makes(NET, ("unwait", at), waits=WAITS[:at] + WAITS[at + 1:])
        self.refuses(NET, ("unwait", 4), ("unwait", -1), ("unwait", None), ("unwait", True), ("unwait",),
                     ("unwait", 0, 0))
        self.refuses(NET[:1] + ([], [], []), ("unwait", 0), ("lag", 0, (1, 1)))

    def test_the_fortieth_and_one_more(self):
        self.refuses(FULL, ("wait", (0, 1, (0, 1))))
        less = self.asked(changed, FULL, ("unwait", 39))
        self.makes(less, ("wait", (0, 1, (0, 1))), waits=FULL[1][:39] + [(0, 1, (0, 1))])


class TestHoldsAndGroups(Changing):
    def test_hold(self):
        for hold in (("from", 4, (0, 1)), ("till", 0, (-7, 3)), ("by", 2, (50, 1))):
            self.makes(NET, ("hold", hold), holds=HOLDS + [hold])
        self.refuses(NET, ("hold", ("at", 0, (1, 1))), ("hold", ("by", 5, (1, 1))), ("hold", ("by", -1, (1, 1))),
                     ("hold", ("by", 0, (2, 2))), ("hold", ("by", 0)), ("hold", None), ("hold", ["by", 0, (1, 1)]),
                     ("hold", "by", 0, (1, 1)), ("hold",), ("hold", ("by", False, (1, 1))))

    def test_moment(self):
        for at in (0, 1, 2):
            kind, work, moment = HOLDS[at]
            for new in ((-5, 3), (0, 1)):
                self.makes(NET, ("moment", at, new), holds=HOLDS[:at] + [(kind, work, new)] + HOLDS[at + 1:])
        self.refuses(NET, ("moment", 3, (1, 1)), ("moment", -1, (1, 1)), ("moment", False, (1, 1)), ("moment", 0, 1),
                     ("moment", 0, (3, 3)), ("moment", 0), ("moment", 0, (1, 1), 0), ("moment", 0, None))

    def test_unhold(self):
        for at in (0, 1, 2):
            self.makes(NET, ("unhold", at), holds=HOLDS[:at] + HOLDS[at + 1:])
        self.refuses(NET, ("unhold", 3), ("unhold", -1), ("unhold", True), ("unhold", None), ("unhold",),
                     ("unhold", 0, 0))

    def test_the_fortieth_and_one_more(self):
        self.refuses(FULL, ("hold", ("from", 0, (0, 1))))
        less = self.asked(changed, FULL, ("unhold", 0))
        self.makes(less, ("hold", ("from", 0, (0, 1))), holds=FULL[2][1:] + [("from", 0, (0, 1))])

    def test_group(self):
        free = NET[:3] + ([],)
        for group in ([4, 1, 2], [1, 4], [2, 1]):
            self.makes(free, ("group", group), groups=[group])
        self.makes(NET[:3] + ([[2, 4]],), ("offer", 3, POUR), works=WORKS[:3] + [("dry", POUR)] + WORKS[4:])
        even = (WORKS[:3] + [("dry", POUR)] + WORKS[4:], *NET[1:3], [[2, 4]])
        self.makes(even, ("group", [3, 1]), groups=[[2, 4], [3, 1]])
        self.refuses(even, ("group", [3, 2]), ("group", [1, 2]))
        self.refuses(free, ("group", [1]), ("group", []), ("group", [0, 1]), ("group", [1, 3]), ("group", [1, 1]),
                     ("group", [1, 5]), ("group", [1, -1]), ("group", (1, 2)), ("group", 1, 2), ("group", None),
                     ("group",), ("group", [1, True]), ("group", {1: 2}))

    def test_the_fourth_group_and_the_fifth(self):
        self.refuses(FULL, ("group", [8, 9]))
        three = self.asked(changed, FULL, ("ungroup", 1))
        self.makes(three, ("group", [9, 8]), groups=[[0, 1], [4, 5], [6, 7], [9, 8]])

    def test_ungroup(self):
        self.makes(NET, ("ungroup", 0), groups=[])
        self.makes(FULL, ("ungroup", 3), groups=FULL[3][:3])
        self.refuses(NET, ("ungroup", 1), ("ungroup", -1), ("ungroup", None), ("ungroup", False), ("ungroup",),
                     ("ungroup", 0, 0))


class TestOtherThings(Changing):
    def test_things_of_every_kind(self):
        for thing in things_of_every_kind() + [Plain()]:
            self.refuses(NET, thing, (thing, 0), (thing, 0, (1, 1)), ("work", thing), ("group", thing))
        self.refuses(NET, "gone", ["gone", 0], ("Gone", 0), (b"gone", 0), ("goner", 0), ("", 0), {"gone": 0},
                     ("gone", "0"), ("gone", [0]), ("gone", (0,)), ("gone", {}))

    def test_good_ones_spoilt_in_one_place(self):
        free = NET[:3] + ([],)
        for good in (("offer", 0, POUR), ("work", ("more", POUR)), ("gone", 2), ("wait", (2, 3, (1, 1))),
                     ("lag", 2, (5, 2)), ("unwait", 2), ("hold", ("till", 2, (5, 2))), ("moment", 2, (5, 2)),
                     ("unhold", 2), ("group", [1, 2]), ("ungroup", 0)):
            net = free if good[0] == "group" else NET
            self.asked(changed, net, good)
            for wrong in spoilt(good):
                if self.is_good_all_the_same(net, wrong):
                    continue
                self.refused(NoChange, changed, net, wrong)

    def is_good_all_the_same(self, net, thing):
        """An offer without its last corner, or a work by the name paper, does, too."""
        if not isinstance(thing, tuple) or len(thing) < 2 or thing[0] not in ("offer", "work"):
            return False
        offer = thing[-1]
        if thing[0] == "work" and isinstance(offer, tuple) and len(offer) == 2:
            name, offer = offer
            if name not in ("more", "mor", "paper"):
                return False
        return offer in (POUR, steps((3, 1))) and thing[:2] in (("offer", 0), ("work", thing[1]))

    def test_what_is_handed_in_is_not_kept(self):
        group, corners = [1, 2], [((3, 1), (1, 1))]
        told = changed(NET[:3] + ([],), ("group", group))
        self.watch_lists(told, [NET, group])
        told = changed(NET, ("work", ("more", ("steps", corners))))
        self.watch_lists(told, [NET, corners])
        told = changed(NET, ("offer", 3, ("steps", corners)))
        self.watch_lists(told, [NET, corners])


class TestCarried(Changing):
    def test_plans(self):
        for change in (("offer", 0, POUR), ("wait", (0, 4, (9, 1))), ("lag", 0, (9, 1)), ("unwait", 0),
                       ("hold", ("by", 0, (0, 1))), ("moment", 0, (9, 1)), ("unhold", 0), ("ungroup", 0)):
            self.assertEqual(self.asked(carried_plan, NET, change, PLAN), PLAN)
        for at in range(5):
            self.assertEqual(self.asked(carried_plan, NET, ("gone", at), PLAN), PLAN[:at] + PLAN[at + 1:])
        self.assertEqual(self.asked(carried_plan, NET, ("work", ("more", DIG)), PLAN), PLAN + [((0, 1), (4, 1))])
        self.assertEqual(self.asked(carried_plan, NET, ("work", ("more", steps((7, 3)))), PLAN),
                         PLAN + [((0, 1), (7, 1))])

    def paper(self, change, numbers):
        """The paper is carried with its arcs' numbers so, None where there is none."""
        told = self.asked(carried_paper, NET, change, PAPER)
        if numbers is None:
            self.assertIsNone(told)
            return
        self.assertEqual(told, [((arc[0], number), amount) for number, (arc, amount) in zip(numbers, PAPER)])
        self.assertIsNone(look_at_paper(changed(NET, change), told))

    def test_papers(self):
        self.assertIsNone(look_at_paper(NET, PAPER))
        for change in (("offer", 0, POUR), ("work", ("more", DIG)), ("wait", (0, 4, (9, 1))), ("lag", 0, (9, 1)),
                       ("hold", ("by", 0, (0, 1))), ("moment", 0, (9, 1)), ("ungroup", 0), ("unhold", 1),
                       ("unhold", 2), ("gone", 4)):
            numbers = [arc[1] for arc, amount in PAPER]
            self.paper(change, [2, 0, 0, 1, 2, 0] if change == ("gone", 4) else numbers)
        self.paper(("gone", 3), [2, 0, 0, 1, 2, 0])
        for work in (0, 1, 2):
            self.paper(("gone", work), None)
        self.paper(("unwait", 2), [2, 0, 0, 1, 2, 0])
        for wait in (0, 1, 3):
            self.paper(("unwait", wait), None)
        self.paper(("unhold", 0), None)

    def test_the_paper_of_nothing(self):
        for change in (("gone", 0), ("unwait", 0), ("unhold", 0), ("work", ("more", DIG))):
            self.assertEqual(self.asked(carried_paper, NET, change, []), [])

    def test_holds_that_go_and_stay(self):
        paper = [(("start", 3), (1, 1)), (("wait", 2), (1, 1)), (("hold", 2), (1, 1))]
        self.assertIsNone(look_at_paper(NET, paper))
        self.assertEqual(carried_paper(NET, ("unhold", 1), paper), paper[:2] + [(("hold", 1), (1, 1))])
        self.assertIsNone(carried_paper(NET, ("unhold", 2), paper))
        self.assertEqual(carried_paper(NET, ("gone", 0), paper), [
            (("start", 2), (1, 1)), (("wait", 1), (1, 1)), (("hold", 1), (1, 1))])


def by_names(net):
    """The net with names in the stead of works' numbers."""
    names = [name for name, offer in net[0]]
    return (net[0], [(names[one], names[other], lag) for one, other, lag in net[1]],
            [(kind, names[work], moment) for kind, work, moment in net[2]],
            [[names[work] for work in group] for group in net[3]])


def random_change(source, net):
    """A thing of a change's form, mostly a change."""
    many = len(net[0])
    at = source.randrange(-1, 5)
    lag = part(frac((source.randint(-9, 9), source.randint(1, 3))))
    offer = random_offer(source, source.choice(["straight", "steps"]))
    return source.choice([
        ("offer", at, offer), ("work", (source.choice("abcxyz"), offer)), ("gone", at), ("gone", at),
        ("wait", (source.randrange(many), source.randrange(many), lag)), ("lag", at, lag), ("unwait", at),
        ("hold", (source.choice(["from", "till", "by"]), source.randrange(many), lag)), ("moment", at, lag),
        ("unhold", at), ("group", source.sample(range(many), min(2, many))), ("ungroup", at),
    ])


class TestByChance(Changing):
    def test_changed_nets_are_nets_and_gone_works_are_gone(self):
        source = chance(121)
        seen = {"good": 0, "gone": 0, "paper": 0, "wrong": 0}
        for number in range(600):
            net, (plan,), whole = net_around(source, ("steps", "straight"), 5, 1)
            change, paper = random_change(source, net), random_paper(source, net)
            try:
                told = changed(net, change)
            except NoChange:
                seen["wrong"] += 1
                continue
            seen["good"] += 1
            self.assertIsNone(look_at_net(told))
            self.assertEqual(len(carried_plan(net, change, plan)), len(told[0]))
            carried = self.asked(carried_paper, net, change, paper)
            if carried is not None:
                self.assertIsNone(look_at_paper(told, carried))
                seen["paper"] += len(paper) > 0
            if change[0] == "gone":
                seen["gone"] += 1
                self.gone(net, change[1], told)
        self.assertGreater(min(seen.values()), 30, seen)

    def gone(self, net, at, told):
        name = net[0][at][0]
        works, waits, holds, groups = by_names(net)
        left = [[work for work in group if work != name] for group in groups]
        self.assertEqual(by_names(told), (
            [work for work in works if work[0] != name], [wait for wait in waits if name not in wait[:2]],
            [hold for hold in holds if hold[1] != name], [group for group in left if len(group) > 1]))

    def test_refused_is_what_makes_no_net(self):
        source = chance(122)
        for number in range(300):
            net, (plan,), whole = net_around(source, ("steps", "straight"), 4, 1)
            change = random_change(source, net)
            if change[0] not in ("work", "wait", "hold", "group"):
                continue
            part_of = ["work", "wait", "hold", "group"].index(change[0])
            made = net[:part_of] + (net[part_of] + [change[1]],) + net[part_of + 1:]
            try:
                look_at_net(made)
            except NoNet:
                self.refused(NoChange, changed, net, change)
                continue
            self.assertEqual(changed(net, change), made)


if __name__ == "__main__":
    unittest.main()
