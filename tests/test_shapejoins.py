"""Promises 9.4, 9.6 and 0.4 (f): shapes beside and behind one another, scaled; the stairs of nets so joined."""

import unittest
from fractions import Fraction

from hurryprice.joins import net_scaled, net_turned, nets_behind, nets_beside
from hurryprice.shapejoins import shape_scaled, shapes_behind, shapes_beside
from hurryprice.shapes import is_shape, price_at, shape_of
from hurryprice.stairs import stair_of
from tests.asking import Asking, chance, frac, part, straight
from tests.samples import MINUTE
from tests.stairrules import ALONE, FIXED, ROW, bars_every_whole, planned_net, ring_net
from tests.test_joins import renamed
from tests.test_shapes import THREE, shape
from tests.test_sides import random_shape, reckoned_price


def least_behind(one, other, wait, whole):
    """The least of both prices over all two wholes that with the wait come to the whole; None where there are none."""
    wholes = [frac(bend[0]) for bend in one] + [whole - wait - frac(bend[0]) for bend in other]
    pairs = [(reckoned_price(one, mine), reckoned_price(other, whole - wait - mine)) for mine in wholes]
    return min((mine + theirs for mine, theirs in pairs if mine is not None and theirs is not None), default=None)


class Shapes(Asking):
    def is_made(self, made, expected):
        self.assertIs(is_shape(made), True)
        self.assertEqual(made, expected)

    def watched(self, some, span):
        """Wholes below, at, between and behind the bends of a shape."""
        wholes = [frac(bend[0]) for bend in some]
        found = [wholes[0] - MINUTE, wholes[-1] + MINUTE, wholes[-1] + span] + wholes
        return found + [one + (other - one) * Fraction(2, 7) for one, other in zip(wholes, wholes[1:])]


class TestBeside(Shapes):
    def test_both_prices_together(self):
        other = shape((4, 6), (6, 4), (9, 2))
        self.is_made(self.asked(shapes_beside, THREE, other),
                     shape((4, 19), ("11/2", "23/2"), (6, "19/2"), ("15/2", 4), (9, 3)))
        self.is_made(self.asked(shapes_beside, other, THREE), shapes_beside(THREE, other))

    def test_one_bend(self):
        self.is_made(self.asked(shapes_beside, shape((5, 2)), shape((4, 3))), shape((5, 5)))
        self.is_made(self.asked(shapes_beside, THREE, shape((0, 3))), shape(("7/2", 18), ("11/2", 10), ("15/2", 4)))
        self.is_made(self.asked(shapes_beside, THREE, shape((6, 3))), shape((6, "17/2"), ("15/2", 4)))
        self.is_made(self.asked(shapes_beside, THREE, shape((9, 3))), shape((9, 4)))

    def test_bends_at_one_whole(self):
        self.is_made(self.asked(shapes_beside, THREE, THREE), shape(("7/2", 30), ("11/2", 14), ("15/2", 2)))

    def test_random_ones(self):
        source = chance(95)
        for number in range(150):
            one, other = [random_shape(source) for turn in range(2)]
            made = self.asked(shapes_beside, one, other)
            self.assertIs(is_shape(made), True)
            for whole in self.watched(made, 3):
                prices = (reckoned_price(one, whole), reckoned_price(other, whole))
                self.assertEqual(price_at(made, part(whole)), None if None in prices else part(sum(prices)))


class TestBehind(Shapes):
    def test_pieces_by_falling_rates(self):
        # Pieces of 4 and 3 a unit, two units each; of 5, one unit, and 1/2, four units.
        other = shape((0, 9), (1, 4), (5, 2))
        expected = shape(("9/2", 24), ("11/2", 19), ("15/2", 11), ("19/2", 5), ("27/2", 3))
        self.is_made(self.asked(shapes_behind, THREE, other, (1, 1)), expected)
        self.is_made(self.asked(shapes_behind, other, THREE, (1, 1)), expected)

    def test_pieces_of_one_rate_as_one(self):
        self.is_made(self.asked(shapes_behind, THREE, THREE, (0, 1)), shape((7, 30), (11, 14), (15, 2)))
        other = shape((1, 7), (2, 4), (3, 2))
        self.is_made(self.asked(shapes_behind, THREE, other, (1, 2)), shape((5, 22), (7, 14), (10, 5), (11, 3)))
        self.is_made(self.asked(shapes_behind, other, THREE, (1, 2)), shape((5, 22), (7, 14), (10, 5), (11, 3)))

    def test_one_bend(self):
        self.is_made(self.asked(shapes_behind, shape((5, 2)), shape((4, 3)), (0, 1)), shape((9, 5)))
        self.is_made(self.asked(shapes_behind, shape((5, 2)), THREE, (1, 3)),
                     shape(("53/6", 17), ("65/6", 9), ("77/6", 3)))

    def test_random_ones(self):
        source = chance(96)
        for number in range(150):
            one, other = [random_shape(source) for turn in range(2)]
            wait = Fraction(source.randint(0, 4), 2)
            made = self.asked(shapes_behind, one, other, part(wait))
            self.assertIs(is_shape(made), True)
            for whole in self.watched(made, 3):
                price = least_behind(one, other, wait, whole)
                self.assertEqual(price_at(made, part(whole)), None if price is None else part(price))


class TestScaled(Shapes):
    def test_scaled(self):
        self.is_made(self.asked(shape_scaled, THREE, (2, 3), (1, 5)), shape(("7/3", 3), ("11/3", "7/5"), (5, "1/5")))
        self.is_made(self.asked(shape_scaled, shape((5, 2)), (3, 1), (7, 2)), shape((15, 7)))
        self.is_made(self.asked(shape_scaled, THREE, (1, 1), (1, 1)), THREE)


class TestStairsOfJoinedNets(Shapes):
    def stair_shape(self, net):
        return shape_of(stair_of(net))

    def check(self, one, other, wait):
        """What 9.6 says of two nets with plans; the other stands without its holds where it stands behind or turned."""
        bare = (other[0], other[1], [], [])
        mine, theirs, free = self.stair_shape(one), self.stair_shape(other), self.stair_shape(bare)
        self.assertEqual(self.stair_shape(nets_beside(one, other)), shapes_beside(mine, theirs))
        self.assertEqual(self.stair_shape(nets_behind(one, bare, part(wait))), shapes_behind(mine, free, part(wait)))
        self.assertEqual(self.stair_shape(net_turned(bare)), free)
        for span, cost in (((2, 3), (5, 1)), ((7, 1), (1, 9))):
            self.assertEqual(self.stair_shape(net_scaled(other, span, cost)), shape_scaled(theirs, span, cost))

    def test_small_nets(self):
        for wait in (0, "1/2", 7):
            self.check(ALONE, ROW, wait)
            self.check(ROW, ALONE, wait)
            self.check(FIXED, ROW, wait)
            self.check(ROW, renamed(ROW), wait)
            self.check(FIXED, renamed(FIXED), wait)

    def test_holds_at_the_very_moment(self):
        # The quick times just keep them; a little sooner there is no plan, of any net that is joined or scaled so.
        for holds in ([("by", 1, (7, 2))], [("till", 1, (5, 2))], [("till", 0, (0, 1)), ("from", 0, (0, 1))],
                      [("from", 0, (3, 1)), ("by", 1, (13, 2))]):
            just = (ROW[0], ROW[1], holds, [])
            self.check(just, ALONE, Fraction(1, 2))
            self.check(ALONE, just, 3)
            kind, work, moment = holds[-1]
            sooner = part(frac(moment) - MINUTE)
            if kind == "from":
                kind, work, sooner = "till", 0, part(-MINUTE)
            none = (ROW[0], ROW[1], holds[:-1] + [(kind, work, sooner)], [])
            for joined in (nets_beside(ALONE, none), nets_behind(none, ALONE, (1, 2)),
                           net_scaled(none, (1, 3), (2, 5))):
                self.assertEqual(stair_of(joined)[0], "none")

    def test_random_nets(self):
        source = chance(97)
        for number in range(60):
            one, other = planned_net(source, 3), renamed(planned_net(source, 3))
            self.check(one, other, Fraction(source.randint(0, 9), 4))

    def test_waits_below_nought_and_rings(self):
        source = chance(98)
        for number in range(20):
            self.check(ring_net(source), renamed(ring_net(source)), Fraction(number, 3))

    def test_one_of_two_has_no_plan(self):
        source = chance(99)
        for number in range(25):
            good, bad = renamed(planned_net(source, 4)), ring_net(source, MINUTE)
            bare = (good[0], good[1], [], [])
            for joined in (nets_beside(good, bad), nets_beside(bad, good), nets_behind(good, bad, (1, 2)),
                           nets_behind(bad, bare, (0, 1)), nets_beside(bad, renamed(bad))):
                word, paper = stair_of(joined)
                self.assertEqual(word, "none")
                self.assertTrue(bars_every_whole(joined, paper))

    def test_the_one_has_holds_that_leave_no_plan(self):
        bad = ([("z", straight((3, 0), (1, 1)))], [], [("from", 0, (2, 1)), ("by", 0, (5, 2))], [])
        for joined in (nets_beside(ROW, bad), nets_beside(bad, ROW), nets_behind(bad, ROW, (1, 1))):
            self.assertEqual(stair_of(joined)[0], "none")


if __name__ == "__main__":
    unittest.main()
