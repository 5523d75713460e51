"""Promise 13.3, of plans and papers: written and read by their form alone (0.4 i)."""

import unittest

from hurryprice.errors import NoText
from hurryprice.papertexts import read_paper, read_plan, shown_paper, shown_plan
from tests.asking import Asking, Plain, chance, part, things_of_every_kind
from tests.samples import net_around, random_paper
from tests.stairrules import FIXED, ROW
from tests.textrules import PAPER, PLAN, signs_changed, writes

SIXTY = 10 ** 60 - 1


class Reading(Asking):
    def wrong(self, read, *texts):
        for text in texts:
            self.assertEqual(self.refused(NoText, read, text).row, 0, text)

    def judged(self, read, shown, pattern, *texts):
        """Each of the texts is read where it is of the pattern, and then writes the same; else it is refused."""
        for text in texts:
            if writes(pattern, text):
                self.assertEqual(shown(read(text)), text)
            else:
                self.wrong(read, text)


class TestPlans(Reading):
    def same(self, plan, text):
        self.assertEqual(self.asked(shown_plan, plan), text)
        self.assertEqual(self.asked(read_plan, text), plan)

    def test_written_and_read(self):
        self.same([((0, 1), (0, 1))], "0 0")
        self.same([((-7, 2), (3, 1)), ((0, 1), (1, 3))], "-7/2 3, 0 1/3")
        self.same([((SIXTY, SIXTY - 1), (SIXTY, 1))], f"{SIXTY}/{SIXTY - 1} {SIXTY}")

    def test_ten_tuples_and_eleven(self):
        self.same([((at, 1), (1, 2)) for at in range(10)], ", ".join(f"{at} 1/2" for at in range(10)))
        self.wrong(read_plan, ", ".join(f"{at} 1/2" for at in range(11)), ", ".join(["0 0"] * 11))

    def test_texts_that_write_none(self):
        self.wrong(read_plan, "", "-", "0", "0 ", " 0", "0 -1", "0 -1/2", "0 0,", "0 0, ", ", 0 0", "0 0,0 0",
                   "0 0,  0 0",
                   "0 0 , 0 0", "0  0", "0\t0", "0 0\n", "\n0 0", "0 0\n0 0", "0 0 0", "0 0, 0", "0 2/2", "01 0",
                   "-0 0",
                   "0 1" + "0" * 60, "0 0; 0 0", "0 0. 0 0", "x 0", "0 0,\n0 0", "0,0")

    def test_each_sign_counts(self):
        for text in ("-7/2 3, 0 1/3", "0 10"):
            self.judged(read_plan, shown_plan, PLAN, *signs_changed(text, "012-/, \n\t"))

    def test_longer_numbers_are_written_not_read(self):
        text = shown_plan([((1, 1), (10 ** 5000, 1))])
        self.assertEqual(text, "1 1" + "0" * 5000)
        self.wrong(read_plan, text)

    def test_things_of_every_kind(self):
        self.wrong(read_plan, *things_of_every_kind(), Plain(), [((0, 1), (0, 1))], b"0 0")

    def test_by_chance(self):
        source = chance(134)
        for number in range(100):
            net, (plan,), whole = net_around(source, ("steps", "straight"), 6, 1)
            self.same(plan, ", ".join(f"{shown(start)} {shown(time)}" for start, time in plan))


def shown(one):
    return str(one[0]) if one[1] == 1 else f"{one[0]}/{one[1]}"


class TestPapers(Reading):
    def same(self, paper, text):
        self.assertEqual(self.asked(shown_paper, paper), text)
        self.assertEqual(self.asked(read_paper, text), paper)

    def test_written_and_read(self):
        self.same([], "-")
        self.same([(("start", 0), (1, 1))], "start 0 1")
        self.same([(("hold", 99), (SIXTY, 1)), (("wait", 10), (1, SIXTY)), (("end", 9), (7, 3)), (("end", 9), (7, 3))],
                  f"hold 99 {SIXTY}, wait 10 1/{SIXTY}, end 9 7/3, end 9 7/3")

    def test_a_hundred_tuples_and_one_more(self):
        rows = [f"{('start', 'end', 'wait', 'hold')[at % 4]} {at} {at + 1}" for at in range(100)]
        paper = [((("start", "end", "wait", "hold")[at % 4], at), (at + 1, 1)) for at in range(100)]
        self.same(paper, ", ".join(rows))
        self.wrong(read_paper, ", ".join(rows + ["end 0 1"]), ", ".join(["end 0 1"] * 101))

    def test_texts_that_write_none(self):
        self.wrong(read_paper, "", " ", "--", "- ", " -", "-, -", "-, end 0 1", "end 0 1, -", "end 0 0", "end 0 -1",
                   "end 100 1", "end -1 1", "end 01 1", "end 1/2 1", "end -0 1", "End 0 1", "ends 0 1", "end 0",
                   "end 0 1 1",
                   "end 0 2/4", "end 0 1,", "end 0 1, ", ", end 0 1", "end 0 1,end 0 1", "end 0 1,  end 0 1",
                   "end  0 1",
                   "end\t0 1", "end 0 1\n", "end 0 1\nend 0 1", "work 0 1", "0 1", "end 0 1" + "0" * 60, "end 0 1/1",
                   "till 0 1", "end x 1", "end 0 x", "-end 0 1", "end 0 1 ", " end 0 1")

    def test_each_sign_counts(self):
        for text in ("end 0 7/3, wait 12 1", "-", "hold 1 21"):
            self.judged(read_paper, shown_paper, PAPER, *signs_changed(text, "019-/, \nde"))

    def test_things_of_every_kind(self):
        self.wrong(read_paper, *things_of_every_kind(), Plain(), [(("end", 0), (1, 1))], b"-")

    def test_whether_or_not_it_is_one_of_some_net(self):
        # Neither balanced, nor with arcs unlike.
        self.assertEqual(read_paper("end 0 1, end 0 2"), [(("end", 0), (1, 1)), (("end", 0), (2, 1))])

    def test_by_chance(self):
        source = chance(135)
        for number in range(100):
            net = source.choice([ROW, FIXED, net_around(source, ("steps", "straight"), 6, 1)[0]])
            paper = random_paper(source, net)
            rows = [f"{word} {number} {shown(amount)}" for (word, number), amount in paper]
            self.same(paper, ", ".join(rows) or "-")
            self.same([(arc, part("2/3")) for arc, amount in paper], ", ".join(
                f"{word} {number} 2/3" for (word, number), amount in paper) or "-")


if __name__ == "__main__":
    unittest.main()
