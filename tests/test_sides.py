"""Promises 8.7 and 0.4 (c): two shapes side by side."""

import unittest
from fractions import Fraction

from hurryprice.shapes import is_shape, shape_of
from hurryprice.sides import side_by_side
from hurryprice.stairs import stair_of
from tests.asking import Asking, chance, frac, part
from tests.samples import MINUTE
from tests.stairrules import planned_net
from tests.test_shapes import THREE, shape

EXCHANGED = {"one": "other", "other": "one", "less": "more", "more": "less", "alike": "alike"}


def random_shape(source):
    """A shape of small numbers, so that bends and rates meet often."""
    falls = sorted(source.sample([Fraction(1, 2), *map(Fraction, range(1, 7))], source.randint(0, 4)))
    whole, price = Fraction(source.randint(0, 3)), Fraction(source.randint(0, 3))
    widths = [source.randint(1, 3) for fall in falls]
    whole += sum(widths)
    bends = [(whole, price)]
    for width, fall in zip(widths, falls):
        whole, price = whole - width, price + width * fall
        bends.append((whole, price))
    return shape(*reversed(bends))


def reckoned_price(some, whole):
    """The price of a shape for a whole, None below its first bend: the greatest of all its straight ways there."""
    bends = [(frac(one), frac(price)) for one, price in some]
    if whole < bends[0][0]:
        return None
    found = [bends[-1][1]]
    for (sooner, dear), (later, cheap) in zip(bends, bends[1:]):
        found.append(dear - (whole - sooner) * (dear - cheap) / (later - sooner))
    return max(found)


def reckoned_word(one, other, whole):
    mine, theirs = reckoned_price(one, whole), reckoned_price(other, whole)
    if mine is None or theirs is None:
        return "none" if mine is None and theirs is None else "other" if mine is None else "one"
    return "less" if mine < theirs else "more" if mine > theirs else "alike"


class Sides(Asking):
    def sides(self, one, other, *rows):
        """The rows are told, and the other way about those that go with them."""
        self.assertTrue(is_shape(one) and is_shape(other))
        rows = [(part(whole), there, behind) for whole, there, behind in rows]
        self.assertEqual(self.asked(side_by_side, one, other), rows)
        turned = [(whole, EXCHANGED[there], EXCHANGED[behind]) for whole, there, behind in rows]
        self.assertEqual(self.asked(side_by_side, other, one), turned)
        self.holds(one, other, rows)

    def holds(self, one, other, rows):
        """Each word holds where it is told, and no row could be left out."""
        self.assertIs(type(rows), list)
        wholes = [frac(whole) for whole, there, behind in rows]
        self.assertEqual(wholes, sorted(set(wholes)))
        self.assertEqual(wholes[0], min(frac(one[0][0]), frac(other[0][0])))
        for at, (whole, there, behind) in enumerate(rows):
            low = frac(whole)
            high = wholes[at + 1] if at + 1 < len(rows) else max(frac(one[-1][0]), frac(other[-1][0]), low) + 2
            self.assertEqual(reckoned_word(one, other, low), there)
            if at > 0:
                self.assertFalse(there == behind == rows[at - 1][2])
            for share in (MINUTE, Fraction(1, 7), Fraction(1, 2), Fraction(9, 10), 1 - MINUTE):
                self.assertEqual(reckoned_word(one, other, low + share * (high - low)), behind)
            bends = [frac(bend[0]) for bend in one + other]
            for bend in bends:
                if low < bend < high:
                    self.assertEqual(reckoned_word(one, other, bend), behind)


class TestSides(Sides):
    def test_the_same_shape(self):
        self.sides(THREE, THREE, ("7/2", "alike", "alike"))
        self.sides(shape((5, 2)), shape((5, 2)), (5, "alike", "alike"))

    def test_one_bend_each(self):
        self.sides(shape((5, 2)), shape((5, 3)), (5, "less", "less"))
        self.sides(shape((5, 2)), shape((6, 2)), (5, "one", "one"), (6, "alike", "alike"))
        self.sides(shape((5, 2)), shape((6, 1)), (5, "one", "one"), (6, "more", "more"))
        self.sides(shape((5, 2)), shape((6, 3)), (5, "one", "one"), (6, "less", "less"))

    def test_less_all_the_way(self):
        self.sides(shape((1, 9), (3, 2)), shape((1, 10), (4, 3)), (1, "less", "less"))
        self.sides(shape((1, 9), (3, 2)), shape((2, 10), (4, 3)), (1, "one", "one"), (2, "less", "less"))

    def test_crossing_between_bends(self):
        # From 9 to 1 by 4 a unit, from 6 to 2 by 2 a unit: alike at 5/2.
        self.sides(shape((1, 9), (3, 1)), shape((1, 6), (3, 2)), (1, "more", "more"), ("5/2", "alike", "less"))

    def test_crossing_at_a_bend(self):
        self.sides(shape((1, 9), (2, 3), (4, 1)), shape((1, 4), (3, 2)), (1, "more", "more"), (2, "alike", "alike"),
                   (3, "alike", "less"))
        self.sides(shape((0, 9), (1, 5), (3, 3)), shape((0, 8), (1, 5), (2, 3)), (0, "more", "more"),
                   (1, "alike", "more"), (3, "alike", "alike"))

    def test_crossing_twice(self):
        self.sides(shape((0, 8), (8, 0)), shape((0, 9), (2, 4), (9, 2)), (0, "less", "less"),
                   ("2/3", "alike", "more"), ("24/5", "alike", "less"))

    def test_touching_at_just_one_whole(self):
        self.sides(shape((0, 4), (4, 0)), shape((0, 9), (2, 2), (6, 1)), (0, "less", "less"), (2, "alike", "less"))
        # Where the flat one begins, and where the one begins.
        self.sides(shape((0, 4), (4, 0)), shape((0, 5), (5, 0)), (0, "less", "less"), (5, "alike", "alike"))
        self.sides(shape((0, 4), (4, 0)), shape((2, 2), (3, "3/2")), (0, "one", "one"), (2, "alike", "less"))

    def test_alike_for_a_while(self):
        self.sides(shape((0, 9), (1, 6), (3, 2), (5, 1)), shape((0, "17/2"), (1, 6), (3, 2), (4, 1)),
                   (0, "more", "more"), (1, "alike", "alike"), (3, "alike", "more"), (5, "alike", "alike"))
        self.sides(shape((0, 9), (1, 6), (3, 2), (5, 1)), shape((1, 6), (3, 2), (5, 1)), (0, "one", "one"),
                   (1, "alike", "alike"))

    def test_crossing_behind_the_last_bend_of_one(self):
        self.sides(shape((0, 3), (1, 2)), shape((0, 7), (8, 0)), (0, "less", "less"), ("40/7", "alike", "more"))
        self.sides(shape((1, 2)), shape((0, 7), (8, 0)), (0, "other", "other"), (1, "less", "less"),
                   ("40/7", "alike", "more"))

    def test_the_one_ends_where_the_other_begins(self):
        self.sides(shape((0, 3), (1, 2)), shape((1, 2), (2, 1)), (0, "one", "one"), (1, "alike", "more"))
        self.sides(shape((0, 3), (1, 2)), shape((9, 2), (10, 0)), (0, "one", "one"), (9, "alike", "more"))

    def test_fractions(self):
        self.sides(shape((0, "1/3"), ("1/7", 0)), shape((0, "1/4"), ("1/5", "1/9")), (0, "more", "more"),
                   ("3/59", "alike", "less"))


class TestRandomSides(Sides):
    def test_random_shapes(self):
        source = chance(91)
        seen = set()
        for number in range(500):
            one, other = random_shape(source), random_shape(source)
            rows = self.asked(side_by_side, one, other)
            self.holds(one, other, rows)
            turned = [(whole, EXCHANGED[there], EXCHANGED[behind]) for whole, there, behind in rows]
            self.assertEqual(side_by_side(other, one), turned)
            seen.update((there, behind) for whole, there, behind in rows)
        words = ("less", "alike", "more")
        wanted = {("alike", behind) for behind in words} | {("one", "one"), ("less", "less"), ("more", "more")}
        self.assertLessEqual(wanted, seen)

    def test_shapes_of_stairs(self):
        source = chance(92)
        for number in range(40):
            one, other = [shape_of(stair_of(planned_net(source, 4))) for turn in range(2)]
            self.holds(one, other, self.asked(side_by_side, one, other))


if __name__ == "__main__":
    unittest.main()
