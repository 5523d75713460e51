"""Promise 13.3, of trees and stairs: written and read by their form alone, NoText with its row (0.4 i)."""

import re
import unittest

from hurryprice.best import best_of
from hurryprice.counting import choice_count
from hurryprice.errors import NoText
from hurryprice.stairs import stair_of
from hurryprice.stairtexts import read_stair, read_tree, shown_stair, shown_tree
from tests.asking import Asking, Plain, chance, things_of_every_kind
from tests.samples import net_around
from tests.stairrules import ROW, random_net
from tests.textrules import NUMBER, PAPER, PLAN, RATIO, are_lowest, signs_changed, writes

LEAF = rf"(?:line|bar) {PAPER}"
INNER = re.compile(rf"split {NUMBER} \[(?:{LEAF}(?: \| {LEAF})*)?\]")
BOTH = [(("start", 0), (1, 1)), (("end", 0), (1, 1))]


def writes_tree(text):
    """Tells whether a text is a tree's writing: its innermost splits are made leaves until one leaf is left."""
    if not are_lowest(text):
        return False
    for deep in range(11):
        if re.fullmatch(LEAF, text):
            return True
        text = INNER.sub("line -", text)
    return False


def nested(many):
    """A tree of so many splits within one another, and its writing."""
    tree, text = ("bar", []), "bar -"
    for at in range(many):
        tree, text = ("split", at, [("line", []), tree]), f"split {at} [line - | {text}]"
    return tree, text


class TestTrees(Asking):
    def same(self, tree, text):
        self.assertEqual(self.asked(shown_tree, tree), text)
        self.assertEqual(self.asked(read_tree, text), tree)

    def wrong(self, *texts):
        for text in texts:
            self.assertEqual(self.refused(NoText, read_tree, text).row, 0, text)

    def test_written_and_read(self):
        self.same(("line", []), "line -")
        self.same(("bar", BOTH), "bar start 0 1, end 0 1")
        self.same(("split", 2, [("line", BOTH), ("bar", [])]), "split 2 [line start 0 1, end 0 1 | bar -]")
        self.same(("split", 99, [("line", [])]), "split 99 [line -]")

    def test_a_split_without_trees(self):
        self.same(("split", 0, []), "split 0 []")
        self.same(("split", 1, [("split", 0, []), ("line", []), ("split", 7, [])]),
                  "split 1 [split 0 [] | line - | split 7 []]")

    def test_ten_splits_within_one_another_and_eleven(self):
        self.same(*nested(10))
        self.wrong(nested(11)[1], nested(40)[1], "split 0 [" * 11 + "]" * 11)
        empty = "split 0 [" * 10 + "]" * 10
        self.assertEqual(shown_tree(read_tree(empty)), empty)
        deep, text = nested(9)
        self.same(("split", 5, [deep, deep, ("line", []), deep]), f"split 5 [{text} | {text} | line - | {text}]")

    def test_many_trees(self):
        many = [("bar", [])] * 900
        self.assertEqual(read_tree(shown_tree(("split", 3, many))), ("split", 3, many))

    def test_texts_that_write_none(self):
        self.wrong("", " ", "-", "line", "line ", "bar", "Line -", "lines -", "line  -", " line -", "line - ",
                   "line -\n",
                   "line -]", "line - | bar -", "line - |", "split", "split ", "split 1", "split 1 ", "split 1 [",
                   "split 1[]",
                   "split 1 []]", "split 1 [] ", "split 1 [ ]", "split [line -]", "split 100 [line -]",
                   "split -1 [line -]",
                   "split 01 [line -]", "split x [line -]", "split 1 [line -", "split 1 line -]",
                   "split 1 [line -|bar -]",
                   "split 1 [line - |bar -]", "split 1 [line -| bar -]", "split 1 [line -  | bar -]",
                   "split 1 [line - | ]",
                   "split 1 [ | line -]", "split 1 [line - | | bar -]", "split 1 [ line -]", "split 1 [line - ]",
                   "split 1 [line -] | bar -", "split  1 [line -]", "split 1  [line -]", "split 1 (line -)",
                   "split 1 2 [line -]",
                   "split 1 [split 2 [line -]", "split 1 [line start 0 0]", "split 1 [line start 0 1,end 0 1]",
                   "split 1 [line -, bar -]", "split 1 [line -\n| bar -]", "split 1/2 [line -]", "tree line -",
                   "[line -]",
                   "split 1 [line - || bar -]", "line -|", "line - | ")

    def test_each_sign_counts(self):
        text = "split 2 [line end 0 7/3 | split 10 [] | split 1 [bar -]]"
        for other in signs_changed(text, "01- |[],\n"):
            if writes_tree(other):
                self.assertEqual(shown_tree(read_tree(other)), other)
            else:
                self.wrong(other)

    def test_things_of_every_kind(self):
        self.wrong(*things_of_every_kind(), Plain(), ("line", []), b"line -", ["line -"])

    def test_trees_that_were_told(self):
        source = chance(136)
        for number in range(60):
            net, plans, whole = net_around(source, ("steps", "steps", "straight"), 4, 1)
            if choice_count(net) <= 64:
                tree = best_of(net, whole)[-1]
                self.assertTrue(writes_tree(shown_tree(tree)))
                self.assertEqual(read_tree(shown_tree(tree)), tree)


def begins_stair(rows):
    """Tells whether these rows begin a stair's writing."""
    if rows[0].startswith("none"):
        return len(rows) == 1 and writes(f"none {PAPER}", rows[0])
    patterns = [f"bend {RATIO} {RATIO} {PLAN}", f"paper {PAPER}"]
    for at, row in enumerate(rows):
        last = at == len(rows) - 1 and at > 0 and at % 2 == 0
        if not writes(patterns[at % 2], row) and not (last and writes(f"bar {PAPER}", row)):
            return False
    return True


class TestStairs(Asking):
    def same(self, stair, text):
        self.assertEqual(self.asked(shown_stair, stair), text)
        self.assertEqual(self.asked(read_stair, text), stair)

    def wrong(self, row, *texts):
        for text in texts:
            self.assertEqual(self.refused(NoText, read_stair, text).row, row, text)

    def judged(self, text):
        rows = text.split("\n")
        good = [begins_stair(rows[:at + 1]) for at in range(len(rows))]
        if not all(good):
            self.wrong(good.index(False), text)
        elif rows[-1].startswith(("bar", "none")):
            self.assertEqual(shown_stair(read_stair(text)), text)
        else:
            self.wrong(len(rows), text)

    def test_none(self):
        self.same(("none", []), "none -")
        self.same(("none", BOTH), "none start 0 1, end 0 1")
        self.wrong(0, "none", "none ", "none  -", "none -, -", "None -", "none x", "none - ", "nones -")
        self.wrong(1, "none -\n", "none -\nbar -", "none -\nnone -", "none -\nbend 0 0 0 0\npaper -\nbar -")
        self.wrong(0, "none x\nbar -")

    def test_one_bend(self):
        self.same(("stair", [((1, 2), (-3, 1), [((0, 1), (1, 2))])], [[]], BOTH),
                  "bend 1/2 -3 0 1/2\npaper -\nbar start 0 1, end 0 1")

    def test_by_its_form_alone(self):
        # Wholes that don't rise, plans of unlike numbers of works.
        text = "bend 3 0 0 1, 0 1\npaper end 3 1\nbend -2 5 0 1\npaper -\nbar -"
        self.same(("stair", [((3, 1), (0, 1), [((0, 1), (1, 1))] * 2), ((-2, 1), (5, 1), [((0, 1), (1, 1))])],
                   [[(("end", 3), (1, 1))], []], []), text)

    def test_rows_that_lack(self):
        rows = shown_stair(stair_of(ROW)).split("\n")
        self.assertEqual(len(rows), 7)
        for many in range(1, 7):
            self.wrong(many, "\n".join(rows[:many]))
        for at in range(7):
            self.judged("\n".join(rows[:at] + rows[at + 1:]))
            self.judged("\n".join(rows[:at] + rows[at:at + 1] + rows[at:]))
            self.judged("\n".join(rows[:at] + [""] + rows[at:]))
        self.wrong(7, "\n".join(rows + [""]), "\n".join(rows + ["bar -"]), "\n".join(rows + ["bend 0 0 0 0"]))

    def test_rows_that_can_not_stand(self):
        bend, paper, bar = "bend 1 2 0 1", "paper -", "bar -"
        self.wrong(0, "", "\n", " ", bar, paper, f"{paper}\n{bend}", "bend", "bend ", "bend 1", "bend 1 2", "bend 1 2 ",
                   "bend 1 2 0", "bend 1 2 0 -1", "bend 1  2 0 1", "bend 1 2 0 1,", "bend 1 2 -", f" {bend}",
                   f"{bend} ",
                   "bend 1 2 " + ", ".join(["0 1"] * 11), "bend 2/2 1 0 1", "bend x 1 0 1", "Bend 1 2 0 1",
                   f"stair\n{bend}\n{paper}\n{bar}", "line -", "bend\t1 2 0 1")
        self.wrong(1, f"{bend}\n{bend}", f"{bend}\n{bar}", f"{bend}\n", f"{bend}\nnone -", f"{bend}\npaper",
                   f"{bend}\npaper ",
                   f"{bend}\npaper  -", f"{bend}\npaper - ", f"{bend}\npaper end 0 0", f"{bend}\nPaper -")
        self.wrong(2, f"{bend}\n{paper}\n{paper}", f"{bend}\n{paper}\n", f"{bend}\n{paper}\nbar",
                   f"{bend}\n{paper}\nbar ",
                   f"{bend}\n{paper}\nnone -", f"{bend}\n{paper}\nbar x\n{bend}")
        self.wrong(3, f"{bend}\n{paper}\n{bar}\n", f"{bend}\n{paper}\n{bar}\n{bar}", f"{bend}\n{paper}\n{bend}\n{bar}",
                   f"{bend}\n{paper}\n{bend}")
        self.wrong(4, f"{bend}\n{paper}\n{bend}\n{paper}")

    def test_each_sign_counts(self):
        text = "bend 1/2 3 0 1, 0 2\npaper end 0 7/3\nbend 2 1 0 1\npaper -\nbar wait 10 1"
        for other in signs_changed(text, "01- ,\nb"):
            self.judged(other)

    def test_longer_numbers_are_written_not_read(self):
        long = "1" + "0" * 60
        text = f"bend 1 {long} 0 1\npaper -\nbar -"
        self.assertEqual(shown_stair(("stair", [((1, 1), (10 ** 60, 1), [((0, 1), (1, 1))])], [[]], [])), text)
        self.wrong(0, text)
        self.wrong(2, f"bend 1 1 0 1\npaper -\nbar end 0 {long}")

    def test_things_of_every_kind(self):
        self.wrong(0, *things_of_every_kind(), Plain(), ("none", []), b"none -", ["none -"])

    def test_stairs_that_were_told(self):
        source = chance(137)
        for number in range(60):
            stair = stair_of(random_net(source, 4))
            self.assertEqual(read_stair(shown_stair(stair)), stair)


if __name__ == "__main__":
    unittest.main()
