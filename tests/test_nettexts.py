"""Promises 13.1 and 13.2: fractions and nets written and read, NoText with its row (0.4 i)."""

import unittest
from fractions import Fraction

from hurryprice.errors import NoText
from hurryprice.nettexts import read_net, read_ratio, shown_net, shown_ratio
from tests.asking import Asking, Plain, chance, part, steps, straight, things_of_every_kind
from tests.samples import full_net_around, net_around
from tests.stairrules import long_net
from tests.test_changes import FULL, NET
from tests.textrules import RATIO, net_of, signs_changed, writes

SIXTY = "9" * 60
# Works that are called as rows begin; one is called straight.
ODD = ([("wait", steps((3, 1), (1, 9))), ("by", steps((3, 1), (1, 9))), ("from", straight(("7/2", 0))),
        ("till", straight((1, 1))), ("group", steps((2, 2))), ("work", steps((2, 2))), ("straight", straight((0, 0)))],
       [(0, 1, (-1, 2)), (5, 4, (0, 1))], [("by", 1, (-3, 1)), ("from", 2, (1, 1)), ("till", 3, (9, 7))],
       [[1, 0], [4, 5]])
ODD_TEXT = """work wait steps 3:1 1:9
work by steps 3:1 1:9
work from straight 7/2:0
work till straight 1:1
work group steps 2:2
work work steps 2:2
work straight straight 0:0
wait wait by -1/2
wait work group 0
by by -3
from from 1
till till 9/7
group by wait
group group work"""


class TestRatios(Asking):
    def test_written_and_read(self):
        for one, text in (((0, 1), "0"), ((7, 1), "7"), ((-7, 1), "-7"), ((1, 2), "1/2"), ((-10, 3), "-10/3"),
                          ((10 ** 59, 1), "1" + "0" * 59), ((10 ** 60 - 1, 10 ** 60 - 2), f"{SIXTY}/{SIXTY[:-1]}8"),
                          ((1 - 10 ** 60, 1), f"-{SIXTY}"), ((10 ** 18, 1), "1" + "0" * 18),
                          ((10 ** 18 - 1, 10 ** 18), f"{'9' * 18}/1{'0' * 18}"), ((10 ** 36 + 7, 1), f"1{'0' * 35}7")):
            self.assertEqual(self.asked(shown_ratio, one), text)
            self.assertEqual(self.asked(read_ratio, text), one)

    def test_longer_ones_are_written_not_read(self):
        for figures in (61, 62, 500, 5000, 9999):
            for top, bottom in ((10 ** (figures - 1), 1), (-10 ** (figures - 1), 1), (1, 10 ** (figures - 1))):
                long = "1" + "0" * (figures - 1)
                text = {1: long if top > 0 else f"-{long}"}.get(bottom, f"1/{long}")
                self.assertEqual(shown_ratio((top, bottom)), text)
                self.assertEqual(self.refused(NoText, read_ratio, text).row, 0)

    def test_texts_that_write_none(self):
        for text in ("", "-", "-0", "01", "-01", "00", "2/4", "3/1", "0/1", "0/2", "-0/3", "1/0", "1/-2", "-1/-2",
                     "+1", "1 ",
                     " 1", "1/", "/2", "/", "1//2", "1/2/3", "1/02", "01/2", "1.5", "1e3", "1_0", "\n1", "1\n", "1/2\n",
                     "--1", "1-", "1/ 2", "1 /2", "\t1", "x", "0x1", "1,0", "-1/1", "6/3", "one", "1" + SIXTY,
                     "-1" + SIXTY, f"1/1{SIXTY}", "0" + SIXTY, f"1/0{SIXTY}", "\u0663", "1\u00b2", "\uff11"):
            error = self.refused(NoText, read_ratio, text)
            self.assertEqual(error.row, 0)

    def test_things_of_every_kind(self):
        for thing in [one for one in things_of_every_kind() if one != "0"] + [Plain(), (1, 2), b"1", ["1"]]:
            self.assertEqual(self.refused(NoText, read_ratio, thing).row, 0)

    def test_by_chance(self):
        source = chance(131)
        for number in range(300):
            figures = source.randint(1, 60)
            top, bottom = source.randint(-10 ** figures + 1, 10 ** figures - 1), source.randint(1, 10 ** figures - 1)
            one = part(Fraction(top, bottom))
            text = shown_ratio(one)
            self.assertEqual(text, str(Fraction(*one)))
            self.assertEqual(read_ratio(text), one)

    def test_each_sign_counts(self):
        for text in ("0", "-12", "3/4", "-10/7", "100/21"):
            for wrong in signs_changed(text, "0127-/ +\n"):
                if writes(RATIO, wrong):
                    self.assertEqual(shown_ratio(read_ratio(wrong)), wrong)
                else:
                    self.refused(NoText, read_ratio, wrong)


class TestNets(Asking):
    def same(self, net):
        text = self.asked(shown_net, net)
        self.assertEqual(self.asked(read_net, text), net)
        return text

    def wrong(self, text, row):
        self.assertEqual(self.refused(NoText, read_net, text).row, row, text)

    def test_works_called_as_rows_begin(self):
        self.assertEqual(self.same(ODD), ODD_TEXT)

    def test_one_work(self):
        self.assertEqual(self.same(([("a", straight((1, 0)))], [], [], [])), "work a straight 1:0")

    def test_full_ones(self):
        self.same(NET)
        self.assertEqual(len(self.same(FULL).split("\n")), 10 + 40 + 40 + 4)
        self.same(long_net(chance(132), 10, 5, 40, 0))

    def test_by_chance(self):
        source = chance(133)
        for number in range(100):
            self.same(net_around(source, ("steps", "straight"), 6, 1)[0])
        for number in range(5):
            self.same(full_net_around(source, ("steps", "straight"), (10, 40, 40), 1)[0])

    def test_longer_numbers_are_written_not_read(self):
        net = ([("a", straight((10 ** 60, 0)))], [], [("by", 0, (1, 10 ** 60))], [])
        self.wrong(shown_net(net), 0)
        self.assertEqual(shown_net(net), f"work a straight 1{'0' * 60}:0\nby a 1/1{'0' * 60}")
        self.wrong(shown_net(([("a", straight((1, 0)))], [], net[2], [])), 1)

    def test_rows_too_many(self):
        rows = shown_net(FULL).split("\n")
        for at, row in ((10, "work k steps 1:1"), (50, "wait a b 0"), (90, "by a 1"), (94, "group i j")):
            self.wrong("\n".join(rows[:at] + [row] + rows[at:]), at)
            if at < 94:
                self.assertEqual(net_of(rows[:at]), read_net("\n".join(rows[:at])))

    def test_rows_out_of_their_order(self):
        rows = ODD_TEXT.split("\n")
        for one in range(len(rows)):
            for other in range(len(rows)):
                moved = rows[:one] + rows[one + 1:]
                moved.insert(other, rows[one])
                self.judged(moved)
            self.judged(rows[:one] + rows[one + 1:])
            self.judged(rows[:one] + [rows[one]] + rows[one:])

    def judged(self, rows):
        """The rows are read to their net, or refused at the first that can't stand."""
        good = [net_of(rows[:at + 1]) is not None for at in range(len(rows))]
        text = "\n".join(rows)
        if all(good):
            self.assertEqual(read_net(text), net_of(rows))
            self.assertEqual(shown_net(read_net(text)), text)
        else:
            self.wrong(text, good.index(False))

    def test_each_sign_counts(self):
        text = "work wait steps 3:1 1/2:9\nwork by steps 4:0 2:2\nwait by wait -2/3\nby by 7\ngroup by wait"
        self.assertEqual(shown_net(read_net(text)), text)
        for wrong in signs_changed(text, " \n\tb1-/:"):
            self.judged(wrong.split("\n"))

    def test_line_feeds_and_blanks(self):
        for text, row in (("", 0), ("\n", 0), (" ", 0), ("work a straight 1:0\n", 1), ("\nwork a straight 1:0", 0),
                          ("work a straight 1:0\n\nby a 1", 1), ("work a straight 1:0\r\nby a 1", 0),
                          ("work a straight 1:0 ", 0), (" work a straight 1:0", 0), ("work  a straight 1:0", 0),
                          ("work\ta straight 1:0", 0), ("work a straight", 0), ("work a straight ", 0), ("work a", 0),
                          ("work", 0), ("work a straight 1", 0), ("work a straight 1:", 0), ("work a straight :1", 0),
                          ("work a straight 1:0:0", 0), ("work a straight 1 0", 0), ("work A straight 1:0", 0),
                          ("work a Straight 1:0", 0), ("work a straight -1:0", 0), ("work a straight 1:0 1:1", 0),
                          ("by a 1", 0), ("wait a b 1", 0), ("group a b", 0), ("group", 0), ("net", 0)):
            self.wrong(text, row)

    def test_rows_that_are_none_behind_good_works(self):
        works = "work a steps 2:0 1:1\nwork b steps 2:0 1:1\nwork c straight 1:0"
        for row in ("work a steps 2:0", "wait a a 1", "wait a d 1", "wait d a 1", "wait a b", "wait a b 1 1",
                    "wait a b x",
                    "by d 1", "by a", "by a 1 1", "at a 1", "by a 2/2", "group a", "group", "group a c", "group a a",
                    "group a d", "group a b ", "group  a b", "", " ", "wait 0 1 1", "by 0 1", "group 0 1", "till a 1.5",
                    "work d steps 6:0 5:1 4:2 3:3 2:4 1:5", "Wait a b 1", "wait a b 01", "wait a b -0"):
            self.wrong(f"{works}\n{row}", 3)
            self.wrong(f"{works}\n{row}\nwork e straight 1:0", 3)
        self.assertEqual(len(read_net(f"{works}\nwork d steps 5:1 4:2 3:3 2:4 1:5")[0]), 4)

    def test_things_of_every_kind(self):
        for thing in things_of_every_kind() + [Plain(), b"work a straight 1:0", ["work a straight 1:0"], ODD]:
            self.wrong(thing, 0)


if __name__ == "__main__":
    unittest.main()
