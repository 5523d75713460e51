"""Promise 1.1: fractions, held against Python's own."""

import math
import unittest
from fractions import Fraction

from hurryprice.errors import NoNumber
from hurryprice.names import is_ratio
from hurryprice.ratios import is_less, larger, minus, parted, plus, product, ratio, smaller, sum_of
from tests.asking import Asking, chance, frac, part, things_of_every_kind

SIXTY = 10 ** 60 - 1


def some_wholes(seed, many):
    source = chance(seed)
    return [source.randint(-10 ** figures, 10 ** figures) for figures in range(1, 61) for number in range(many)]


def some_ratios(seed, many):
    tops, bottoms = some_wholes(seed, many), some_wholes(seed + 1, many)
    return [part(Fraction(top, bottom or 1)) for top, bottom in zip(tops, bottoms)]


class TestRatio(Asking):
    def is_lowest(self, one):
        self.assertIs(type(one), tuple)
        self.assertEqual([type(one[0]), type(one[1]), len(one)], [int, int, 2])
        self.assertGreaterEqual(one[1], 1)
        self.assertEqual(math.gcd(one[0], one[1]), 1)

    def test_signs(self):
        self.assertEqual(ratio(6, 4), (3, 2))
        self.assertEqual(ratio(-6, 4), (-3, 2))
        self.assertEqual(ratio(6, -4), (-3, 2))
        self.assertEqual(ratio(-6, -4), (3, 2))

    def test_nought(self):
        for bottom in (1, -1, 7, -12, SIXTY, -SIXTY):
            self.assertEqual(ratio(0, bottom), (0, 1))

    def test_wholes(self):
        self.assertEqual(ratio(5, 1), (5, 1))
        self.assertEqual(ratio(5, -1), (-5, 1))
        self.assertEqual(ratio(12, 3), (4, 1))
        self.assertEqual(ratio(7, 7), (1, 1))

    def test_sixty_figures(self):
        self.assertEqual(ratio(SIXTY, SIXTY), (1, 1))
        self.assertEqual(ratio(SIXTY, -3), (-SIXTY // 3, 1))
        self.assertEqual(ratio(SIXTY, SIXTY - 1), (SIXTY, SIXTY - 1))
        for top, bottom in zip(some_wholes(1, 5), reversed(some_wholes(2, 5))):
            made = ratio(top, bottom or 1)
            self.is_lowest(made)
            self.assertEqual(frac(made), Fraction(top, bottom or 1))
            self.assertIs(is_ratio(made), True)

    def test_a_second_nought_is_refused(self):
        for top in (0, 1, -1, SIXTY):
            self.refused(NoNumber, ratio, top, 0)

    def test_what_is_no_whole_number_is_refused_in_either_place(self):
        for thing in things_of_every_kind() + [(1, 1), (0, 1)]:
            if isinstance(thing, int) and not isinstance(thing, bool):
                continue
            self.refused(NoNumber, ratio, thing, 1)
            self.refused(NoNumber, ratio, 1, thing)
            self.refused(NoNumber, ratio, thing, thing)
            self.refused(NoNumber, ratio, thing, 0)

    def test_truths_are_no_whole_numbers(self):
        for truth in (True, False):
            self.refused(NoNumber, ratio, truth, 1)
            self.refused(NoNumber, ratio, 1, truth)


class TestReckoning(Asking):
    def pairs(self):
        few = [part(one) for one in ("0", "1", "-1", "1/2", "-1/2", "1/3", "2", "-7/3", "5/6")]
        many = some_ratios(3, 2)
        return [(one, other) for one in few for other in few] + list(zip(many, reversed(many))) + list(zip(many, many))

    def test_sums_differences_products(self):
        for one, other in self.pairs():
            self.assertEqual(plus(one, other), part(frac(one) + frac(other)))
            self.assertEqual(minus(one, other), part(frac(one) - frac(other)))
            self.assertEqual(product(one, other), part(frac(one) * frac(other)))

    def test_parted(self):
        for one, other in self.pairs():
            if other != (0, 1):
                self.assertEqual(parted(one, other), part(frac(one) / frac(other)))
        self.assertEqual(parted((1, 2), (-1, 3)), (-3, 2))
        self.assertEqual(parted((0, 1), (-5, 3)), (0, 1))

    def test_parted_by_nought_is_refused(self):
        for one in ((0, 1), (1, 1), (-2, 3), (SIXTY, 7)):
            self.refused(NoNumber, parted, one, (0, 1))

    def test_less_larger_smaller(self):
        for one, other in self.pairs():
            self.assertIs(is_less(one, other), frac(one) < frac(other))
            self.assertEqual(larger(one, other), part(max(frac(one), frac(other))))
            self.assertEqual(smaller(one, other), part(min(frac(one), frac(other))))

    def test_close_ones_of_sixty_figures(self):
        one, other = (SIXTY - 1, SIXTY), (SIXTY - 2, SIXTY - 1)
        self.assertIs(is_less(other, one), True)
        self.assertIs(is_less(one, other), False)
        self.assertIs(is_less(one, one), False)
        self.assertEqual((larger(one, other), smaller(one, other)), (one, other))

    def test_sum_of_none(self):
        self.assertEqual(self.asked(sum_of, []), (0, 1))
        self.assertEqual(self.asked(sum_of, ()), (0, 1))

    def test_sum_of_a_list_and_of_a_tuple(self):
        self.assertEqual(self.asked(sum_of, [(1, 2)]), (1, 2))
        self.assertEqual(self.asked(sum_of, [(1, 2), (1, 3), (1, 6)]), (1, 1))
        self.assertEqual(self.asked(sum_of, ((1, 2), (-1, 2))), (0, 1))
        some = some_ratios(5, 2)
        total = part(sum(frac(one) for one in some))
        self.assertEqual(self.asked(sum_of, some), total)
        self.assertEqual(self.asked(sum_of, tuple(some)), total)
        self.assertGreater(total[1], 10 ** 60)


if __name__ == "__main__":
    unittest.main()
