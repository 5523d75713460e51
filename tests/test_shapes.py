"""Promises 7.2 and 0.4 (c): shapes of stairs, and their prices for wholes."""

import unittest
from fractions import Fraction

from hurryprice.shapes import is_shape, price_at, shape_of
from hurryprice.stairs import least_plan, stair_of
from tests.asking import chance, frac, part
from tests.samples import MINUTE
from tests.stairrules import ALONE, FIXED, ROW, Looking, planned_net


def shape(*bends):
    return [(part(whole), part(price)) for whole, price in bends]


THREE = shape(("7/2", 15), ("11/2", 7), ("15/2", 1))


class TestShapeOf(Looking):
    def test_bends_without_plans(self):
        self.assertEqual(self.asked(shape_of, stair_of(ROW)), THREE)
        self.assertEqual(self.asked(shape_of, stair_of(ALONE)), shape((3, 7), (4, 3), (6, 1)))
        self.assertEqual(self.asked(shape_of, stair_of(FIXED)), shape((5, 2)))

    def test_shapes_of_stairs_are_shapes(self):
        source = chance(71)
        for number in range(80):
            stair = stair_of(planned_net(source, 5))
            made = self.asked(shape_of, stair)
            self.assertEqual(made, [bend[:2] for bend in stair[1]])
            self.assertIs(self.asked(is_shape, made), True)


class TestIsShape(Looking):
    def test_good_ones(self):
        for good in (THREE, shape((0, 0)), shape((5, 2)), shape((0, 4), (1, 0)), shape((0, 4), ("1/2", 2), (3, "1/9"))):
            self.assertIs(self.asked(is_shape, good), True)

    def test_things_of_every_kind(self):
        self.never_lets(is_shape, [], shape((1, 2)) + [None], tuple(THREE), dict(THREE))
        self.lets_no_spoilt_one(is_shape, THREE, shorter=False)
        self.lets_no_spoilt_one(is_shape, shape(("1/2", "3/2")))

    def test_wholes_rise_from_nought_on(self):
        self.never_lets(is_shape, shape((3, 2), (2, 1)), shape((3, 2), (3, 1)), shape((-1, 2)), shape((-1, 2), (1, 1)))
        self.never_lets(is_shape, shape((1, 9), (2, 4), (2, 3)), shape((1, 9), (2, 4), ("3/2", 3)))

    def test_prices_fall_and_are_not_below_nought(self):
        self.never_lets(is_shape, shape((1, 2), (2, 2)), shape((1, 2), (2, 3)), shape((1, -1)), shape((1, 2), (2, -1)))
        self.never_lets(is_shape, shape((1, 9), (2, 4), (3, 4)), shape((1, 9), (2, 4), (3, -MINUTE)))
        self.assertIs(is_shape(shape((1, 9), (2, 4), (10, 0))), True)

    def test_falls_are_ever_less(self):
        self.never_lets(is_shape, shape((1, 9), (2, 6), (3, 3)), shape((1, 9), (2, 6), (3, 2)))
        self.never_lets(is_shape, shape((1, 9), (2, 6), (3, 4), (4, 2)), shape((0, 9), (4, 7), (6, 6)))
        self.assertIs(is_shape(shape((1, 9), (2, 6), (3, 3 + MINUTE))), True)
        self.assertIs(is_shape(shape((1, 9), (2, 6), (3 + MINUTE, 3))), True)
        self.never_lets(is_shape, shape((1, 9), (2, 6), (3 - MINUTE, 3)))


class TestPriceAt(Looking):
    def prices(self, some, *rows):
        for whole, price in rows:
            self.assertEqual(self.asked(price_at, some, part(whole)), None if price is None else part(price))

    def test_below_at_between_and_behind_the_bends(self):
        self.prices(THREE, (-9, None), (0, None), (Fraction(7, 2) - MINUTE, None), ("7/2", 15), (4, 13), (5, 9),
                    ("11/2", 7), (6, "11/2"), (7, "5/2"), ("15/2", 1), (8, 1), (10 ** 30, 1))
        self.prices(THREE, (Fraction(7, 2) + MINUTE, 15 - 4 * MINUTE), (Fraction(11, 2) + MINUTE, 7 - 3 * MINUTE))

    def test_one_bend(self):
        self.prices(shape((5, 2)), (5 - MINUTE, None), (5, 2), (5 + MINUTE, 2), (99, 2))
        self.prices(shape((0, 0)), (-1, None), (0, 0), (3, 0))

    def test_the_least_price_of_all_plans(self):
        source = chance(72)
        for number in range(30):
            net = planned_net(source, 4)
            some = shape_of(stair_of(net))
            for turn in range(3):
                span = frac(some[-1][0]) - frac(some[0][0]) + 1
                whole = part(frac(some[0][0]) + span * Fraction(source.randint(-2, 12), 10))
                told = least_plan(net, whole)
                self.assertEqual(price_at(some, whole), None if told[0] == "bar" else told[1])


if __name__ == "__main__":
    unittest.main()
