"""Promises 1.2 and 0.2: whole numbers, fractions and names, told of any thing."""

import unittest

from hurryprice.names import is_name, is_ratio, is_whole
from tests.asking import Asking, things_of_every_kind

LONG = 10 ** 59 + 7


class TestNames(Asking):
    def tells(self, tell, yes, no):
        for thing in yes:
            self.assertIs(tell(thing), True, repr(thing))
        for thing in no:
            self.assertIs(tell(thing), False, repr(thing))

    def test_whole_numbers(self):
        self.tells(is_whole, [0, 1, -1, 12, LONG, -LONG], [True, False, None, "1", b"1", (1,), [1], (1, 1), {}])

    def test_fractions(self):
        yes = [(0, 1), (1, 1), (-1, 1), (1, 2), (-3, 2), (7, 1), (LONG, 1), (1, LONG), (-LONG, LONG + 1)]
        self.tells(is_ratio, yes, [])

    def test_what_is_not_in_lowest_terms(self):
        self.tells(is_ratio, [], [(0, 2), (2, 2), (2, 4), (-2, 4), (6, 3), (3 * LONG, 3), (LONG, LONG), (0, LONG)])

    def test_what_has_no_bottom_from_one_on(self):
        self.tells(is_ratio, [], [(1, 0), (0, 0), (1, -1), (-1, -1), (0, -1), (1, -2), (-1, -LONG)])

    def test_what_is_no_pair_of_whole_numbers(self):
        no = [(), (1,), (1, 1, 1), [1, 1], [0, 1], (True, 1), (False, 1), (1, True), ("1", 1), (1, "1"), (None, 1)]
        self.tells(is_ratio, [], no + [(1, None), ((1, 1), 1), (1, (1, 1)), ([1], 1), "11", b"\x01\x01", {0: 1, 1: 1}])

    def test_names(self):
        self.tells(is_name, ["a", "z", "abcdefgh", "zzzzzzzz", "by", "wait"], [])

    def test_texts_of_no_sign_and_of_nine(self):
        self.tells(is_name, [], ["", "abcdefghi", "a" * 9, "a" * 5000])

    def test_other_signs_than_a_to_z(self):
        no = ["A", "aB", "a1", "1", "a_", "_", "-", "a b", " a", "a ", "a\n", "\n", "`", "{", "a`", "{a", "\t", "~"]
        self.tells(is_name, [], no + ["\u00e4", "\u00df", "\u03b1", "\uff41", "a\u0301", "\u00aa"])

    def test_what_is_no_text(self):
        self.tells(is_name, [], [b"a", ["a"], ("a",), {"a": 1}, {"a"}, 1, None, True])

    def test_things_of_every_kind_are_told_of_without_an_error(self):
        for tell in (is_whole, is_ratio, is_name):
            for thing in things_of_every_kind():
                shown = repr(thing)
                self.assertIn(tell(thing), (True, False))
                self.assertIsInstance(tell(thing), bool)
                self.assertEqual(repr(thing), shown)

    def test_no_fraction_and_no_name_among_them(self):
        for thing in things_of_every_kind():
            self.assertIs(is_ratio(thing), False, repr(thing))
            self.assertIs(is_name(thing), False, repr(thing))


if __name__ == "__main__":
    unittest.main()
