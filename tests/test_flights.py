"""Promises 11.3 to 11.5: flights of nets of steps alone, told, looked at and read."""

import unittest

from hurryprice.best import best_of
from hurryprice.counting import choice_count
from hurryprice.errors import NotSteps, TooMany
from hurryprice.flights import flight_of, lets_flight, tread_at
from hurryprice.nets import smoothed_net
from hurryprice.papers import rate_of
from hurryprice.plans import first_broken, price_of
from hurryprice.shapes import price_at, shape_of
from hurryprice.stairs import stair_of
from hurryprice.trees import leaves_of, tree_claim
from tests.asking import chance, frac, part, steps, straight, things_of_every_kind
from tests.samples import MINUTE
from tests.stairrules import ROW, Looking, nudged
from tests.test_best import PAIR, TWO, in_a_row
from tests.treerules import NET, random_steps_net, reckoned_ends

ALONE = ([("a", steps((5, 2)))], [], [], [])
RING = ([("a", TWO), ("b", TWO)], [(0, 1, (0, 1)), (1, 0, (-3, 2))], [], [])
# The long one of a alone leads into a ring.
HALF = ([("a", TWO), ("b", TWO)], [(0, 1, (0, 1)), (1, 0, (-2, 1))], [], [[1, 0]])
A = [(("start", 0), (1, 1)), (("end", 0), (1, 1))]
# Ten works, 1024 choices, of which but the first one's matters.
MANY = ([("a", steps((4, 0), (2, 6)))] + [("bcdefghij"[at], steps((1, 0), ("1/2", 1))) for at in range(9)], [], [], [])
MANY_LONG = [((0, 1), (4, 1))] + [((0, 1), (1, 1))] * 9
MANY_QUICK = [((0, 1), (2, 1))] + [((0, 1), (1, 1))] * 9
MANY_FLIGHT = ("flight", [
    ((2, 1), (6, 1), MANY_QUICK, ("bar", A)),
    ((4, 1), (0, 1), MANY_LONG, ("split", 0, [("bar", A), ("line", [])])),
], ("line", []))


def is_flat(net, whole, tree):
    return all(rate_of(leaf[1]) == (0, 1) for choice, leaf in leaves_of(net, whole, False, tree))


def best_ends(net):
    """The tuples (whole, price) of the flight, by going through all choices."""
    treads = []
    for whole, price in sorted(reckoned_ends(net)):
        if not treads or price < treads[-1][1]:
            treads.append((whole, price))
    return treads


class Flying(Looking):
    def flight(self, net, *rows):
        """What is told, by all that 11.3 says of it; by rows (whole, price)."""
        told = self.asked(flight_of, net)
        self.assertIs(self.asked(lets_flight, net, told), True)
        if not rows:
            self.assertEqual((told[0], len(told)), ("none", 2))
            for whole in ((0, 1), (1, 2), (10 ** 9, 1)):
                self.assertEqual(tree_claim(net, whole, False, told[1]), ("none",))
            self.assertTrue(is_flat(net, (0, 1), told[1]))
            return
        word, treads, last = told
        self.assertEqual(word, "flight")
        self.assertEqual([tread[:2] for tread in treads], [(part(whole), part(price)) for whole, price in rows])
        for at, (whole, price, plan, tree) in enumerate(treads):
            self.assertIsNone(first_broken(net, plan, whole))
            self.assertEqual(price_of(net, plan), price)
            claim = tree_claim(net, whole, True, tree)
            if at == 0:
                self.assertEqual(claim, ("none",))
            else:
                self.assertGreaterEqual(frac(claim[1]), frac(treads[at - 1][1]))
        self.assertTrue(is_flat(net, treads[-1][0], last))
        self.assertEqual(tree_claim(net, treads[-1][0], False, last), ("least", treads[-1][1]))


class TestFlight(Flying):
    def test_two_in_a_row(self):
        self.flight(PAIR, (4, 11), (5, 6), (7, 3), (9, 1))

    def test_one_tread(self):
        self.flight(ALONE, (5, 2))
        self.flight(([("a", TWO)], [], [("from", 0, (3, 1)), ("by", 0, (9, 2))], []), (4, 1))
        # What a dearer corner buys is of no use: the other work takes as long.
        self.flight(([("a", TWO), ("b", steps((2, 0)))], [], [], []), (2, 0))

    def test_no_plan_at_all(self):
        self.flight(RING)
        self.flight(([("a", TWO)], [], [("from", 0, (3, 1)), ("by", 0, (7, 2))], []))

    def test_waits_that_lead_round(self):
        self.flight(HALF, (2, 2))
        self.flight((*HALF[:3], []), (2, 2))
        self.flight(([("a", TWO), ("b", TWO)], [(0, 1, (0, 1)), (1, 0, (-3, 1))], [], []), (2, 2), (3, 1))

    def test_a_group(self):
        self.flight(in_a_row(TWO, steps((2, 0), (1, 5)), groups=[[1, 0]]), (2, 6), (4, 0))

    def test_just_sixty_four_choices_and_more(self):
        self.flight(in_a_row(*[TWO] * 6), *[(whole, 12 - whole) for whole in range(6, 13)])
        self.assertEqual(flight_of(in_a_row(*[TWO] * 6))[2], ("line", []))
        self.refused(TooMany, flight_of, in_a_row(*[TWO] * 7))
        self.refused(TooMany, flight_of, MANY)

    def test_nets_with_a_straight_offer(self):
        for net in (ROW, NET, in_a_row(straight((1, 1)), *[TWO] * 8), in_a_row(TWO, straight((2, 0), (1, 1)))):
            self.refused(NotSteps, flight_of, net)
            for thing in (None, ("none", ("line", [])), ("flight", [], ("line", [])), MANY_FLIGHT):
                self.refused(NotSteps, lets_flight, net, thing)


class TestFlightsByChance(Flying):
    def test_all_choices_of_small_nets(self):
        source = chance(114)
        seen = {0: 0, 1: 0, 2: 0}
        for number in range(120):
            net = random_steps_net(source, ("steps",), 4)
            if choice_count(net) > 64:
                continue
            rows = best_ends(net)
            seen[min(len(rows), 2)] += 1
            self.flight(net, *rows)
            told = flight_of(net)
            for whole in [whole for whole, price in rows] + [3, 0]:
                for more in (0, MINUTE, -MINUTE):
                    at = part(max(whole + more, 0))
                    best = best_of(net, at)
                    tread = tread_at(told, at) if rows else None
                    self.assertEqual(best[1] if best[0] == "plan" else None,
                                     None if tread is None else part(rows[tread][1]))
        self.assertGreater(min(seen.values()), 4, seen)

    def test_the_stair_of_the_smoothed_net_lies_below(self):
        source = chance(115)
        for number in range(80):
            net = random_steps_net(source, ("steps",), 4)
            if choice_count(net) > 64:
                continue
            stair, flight = stair_of(smoothed_net(net)), flight_of(net)
            if stair[0] == "none":
                self.assertEqual(flight[0], "none")
            if flight[0] == "none":
                continue
            shape = shape_of(stair)
            self.assertGreaterEqual(frac(flight[1][0][0]), frac(shape[0][0]))
            for whole, price, plan, tree in flight[1]:
                self.assertLessEqual(frac(price_at(shape, whole)), frac(price))


class TestLetsFlight(Looking):
    def lets(self, thing):
        return lets_flight(MANY, thing)

    def changed(self, **more):
        """The flight of MANY with other treads' parts, by their names and numbers."""
        treads = [list(tread) for tread in MANY_FLIGHT[1]]
        for name, one in more.items():
            treads[int(name[-1])][["whole", "price", "plan", "tree"].index(name[:-1])] = one
        return ("flight", [tuple(tread) for tread in treads], MANY_FLIGHT[2])

    def test_however_many_choices(self):
        self.assertGreater(choice_count(MANY), 64)
        self.assertIs(self.asked(lets_flight, MANY, MANY_FLIGHT), True)

    def test_trees_by_others(self):
        split = ("split", 0, [("line", []), ("line", [])])
        self.assertIs(self.lets(("flight", MANY_FLIGHT[1], split)), True)
        two = [(("start", 0), (2, 1)), (("end", 0), (2, 1))]
        self.assertIs(self.lets(self.changed(tree0=("bar", two))), True)
        # A line that claims more than the tread ahead's price will do; one that claims less won't.
        steep = [(("start", 0), (3, 1)), (("end", 0), (3, 1))]
        self.assertEqual(tree_claim(MANY, (4, 1), True, ("line", two)), ("least", (0, 1)))
        self.never_lets(self.lets, self.changed(tree1=("line", two)), self.changed(tree1=("line", steep)))
        whole, price = part(4 + MINUTE), part(MINUTE)
        self.never_lets(self.lets, self.changed(whole1=whole), self.changed(price1=price))

    def test_a_tread_is_its_plan_s(self):
        later = [((1, 1), (2, 1))] + MANY_QUICK[1:]
        self.never_lets(self.lets, self.changed(plan0=MANY_LONG), self.changed(plan1=MANY_QUICK),
                        self.changed(plan0=later), self.changed(plan0=MANY_QUICK[:9]), self.changed(plan0=[]))
        self.never_lets(self.lets, self.changed(tree0=("line", [])), self.changed(tree1=("bar", A)),
                        self.changed(tree0=MANY_FLIGHT[1][1][3]))

    def test_treads_rise(self):
        first, second = MANY_FLIGHT[1]
        self.never_lets(self.lets, ("flight", [second, first], ("line", [])), ("flight", [first, first], ("line", [])),
                        ("flight", [], ("line", [])), ("flight", [first], ("line", [])),
                        ("flight", [second], ("line", [])), ("flight", [first, second, second], ("line", [])))
        # A tread between, of the same price as the one ahead.
        still = ((3, 1), (6, 1), MANY_QUICK, second[3])
        self.never_lets(self.lets, ("flight", [first, still, second], ("line", [])))

    def test_wholes_rise(self):
        word, treads, last = flight_of(PAIR)
        dearer = (treads[2][0], (4, 1), [((0, 1), (3, 1)), ((3, 1), (4, 1))], treads[2][3])
        self.assertEqual(dearer[0], (7, 1))
        self.assertIs(lets_flight(PAIR, ("flight", treads[:2] + [dearer] + treads[3:], last)), False)
        self.assertIs(lets_flight(PAIR, ("flight", treads[:2] + [dearer] + treads[2:], last)), False)
        self.assertIs(lets_flight(PAIR, ("flight", treads[:3] + [dearer] + treads[3:], last)), False)

    def test_the_last_tree(self):
        # It claims the last price, by papers of the rate (0, 1) alone.
        flat = [(("start", 0), (1, 10 ** 9)), (("end", 0), (1, 10 ** 9))]
        self.assertEqual(tree_claim(MANY, (4, 1), False, ("line", flat)), ("least", (0, 1)))
        self.never_lets(self.lets, ("flight", MANY_FLIGHT[1], ("line", flat)), ("flight", MANY_FLIGHT[1], ("bar", A)),
                        ("flight", MANY_FLIGHT[1], ("split", 0, [("line", flat), ("line", [])])))
        held = (MANY[0], [], [("from", 0, (0, 1)), ("till", 0, (5, 1))], [])
        self.assertIs(lets_flight(held, MANY_FLIGHT), True)
        less = ("line", [(("hold", 0), (1, 1)), (("hold", 1), (1, 1))])
        self.assertEqual(tree_claim(held, (4, 1), False, less), ("least", (-5, 1)))
        self.assertIs(lets_flight(held, ("flight", MANY_FLIGHT[1], less)), False)

    def test_none(self):
        told = flight_of(RING)
        self.assertIs(lets_flight(RING, told), True)
        self.assertIs(lets_flight(PAIR, told), False)
        self.never_lets(lambda thing: lets_flight(RING, thing), ("none", ("line", [])), ("none", ("bar", [])),
                        ("none", None), ("flight", [], told[1]), ("none", told[1], told[1]))
        # A bar that bars the whole (0, 1) alone is none of every whole.
        self.assertEqual(tree_claim(ALONE, (0, 1), False, ("bar", A)), ("none",))
        self.assertIs(lets_flight(ALONE, ("none", ("bar", A))), False)
        both = ("split", 0, [told[1], ("bar", [(("start", 0), (1, 1)), (("end", 0), (1, 1))])])
        self.assertIs(lets_flight(RING, ("none", both)), False)
        self.assertIs(lets_flight(RING, ("none", ("split", 0, [told[1], told[1]]))), True)

    def test_things_of_other_kinds_and_spoilt_ones(self):
        for net in (MANY, RING, ALONE):
            self.never_lets(lambda thing: lets_flight(net, thing), *things_of_every_kind())
        for net in (PAIR, RING, HALF):
            self.lets_no_spoilt_one(lambda thing: lets_flight(net, thing), flight_of(net))

    def test_nudged_ones(self):
        good = flight_of(PAIR)
        for wrong in nudged([tread[:3] for tread in good[1]]):
            treads = [(*tread, old[3]) for tread, old in zip(wrong, good[1])]
            self.assertIs(lets_flight(PAIR, ("flight", treads, good[2])), False, repr(wrong))


class TestTreadAt(Looking):
    def test_at_a_tread_and_between(self):
        flight = flight_of(PAIR)
        for whole, number in ((4, 0), (4 - MINUTE, None), (0, None), (5, 1), (5 - MINUTE, 0), (5 + MINUTE, 1), (7, 2),
                              (9 - MINUTE, 2), (9, 3), (10 ** 40, 3), (-1, None)):
            self.assertEqual(self.asked(tread_at, flight, part(whole)), number)

    def test_by_its_form_alone(self):
        form = ("flight", [((1, 2), None, None, None), ((2, 3), (0, 1), [], ())], None)
        for whole, number in (((1, 3), None), ((1, 2), 0), ((3, 5), 0), ((2, 3), 1), ((9, 1), 1)):
            self.assertEqual(tread_at(form, whole), number)
        self.assertEqual(tread_at(("flight", form[1][:1], None), (7, 1)), 0)


if __name__ == "__main__":
    unittest.main()
