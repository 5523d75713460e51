"""Promise 4.1: papers looked at, and the works' amounts."""

import unittest

from hurryprice.claims import bars, claimed, claims_of, is_tight
from hurryprice.errors import NoPaper, Unbalanced
from hurryprice.nets import look_at_net
from hurryprice.papers import amounts_of, look_at_paper
from tests.asking import Asking, chance, frac, part, steps, straight, things_of_every_kind
from tests.samples import net_around, random_paper

WORKS = [("a", straight((4, 0), (2, 6))), ("b", steps((3, 1), (1, 9))), ("c", straight((2, 0)))]
WAITS = [(0, 1, (1, 2)), (1, 2, (-1, 1)), (2, 0, (-9, 1)), (0, 1, (0, 1)), (1, 0, (-8, 1))]
HOLDS = [("from", 0, (1, 1)), ("till", 1, (9, 2)), ("by", 2, (7, 1)), ("from", 1, (-1, 1)), ("till", 0, (3, 1))]
NET = (WORKS, WAITS, HOLDS, [])
PLAN = [((0, 1), (3, 1)), ((4, 1), (3, 1)), ((6, 1), (2, 1))]


def paper_of(*arcs):
    """A paper of words, numbers and amounts."""
    return [((word, number), part(amount)) for word, number, amount in arcs]


ALONG = paper_of(("start", 0, "1/2"), ("wait", 0, "1/3"), ("wait", 3, "1/6"), ("wait", 1, "1/2"), ("end", 2, "1/2"))
PAPERS = [
    ([], [0, 0, 0]),
    (paper_of(("start", 0, 2), ("end", 0, 2)), [2, 0, 0]),
    (ALONG, ["1/2", "1/2", "1/2"]),
    (paper_of(("hold", 0, 3), ("end", 0, 3)), [3, 0, 0]),
    (paper_of(("hold", 0, 3), ("hold", 4, 3)), [0, 0, 0]),
    (paper_of(("start", 0, 3), ("hold", 4, 1), ("end", 0, 2)), [2, 0, 0]),
    (paper_of(("hold", 4, 1), ("end", 0, 2), ("start", 0, "1/4"), ("hold", 0, "11/4")), [2, 0, 0]),
    (paper_of(("start", 2, 5), ("hold", 2, 5)), [0, 0, 5]),
    (paper_of(("hold", 3, 2), ("wait", 1, 2), ("hold", 2, "3/2"), ("end", 2, "1/2")), [0, 2, 2]),
    (paper_of(("wait", 0, 7), ("wait", 1, 7), ("wait", 2, 7)), [7, 7, 7]),
    (paper_of(("wait", 3, 7), ("wait", 4, 7)), [7, 7, 0]),
    (paper_of(("wait", 3, 1), ("wait", 0, 1), ("wait", 4, 2), ("start", 2, 1), ("end", 2, 1)), [2, 2, 1]),
    (paper_of(("start", 0, 1), ("wait", 0, 1), ("hold", 1, 1)), [1, 0, 0]),
    (paper_of(("end", 1, 4), ("start", 1, 4), ("start", 2, 9), ("end", 2, 9)), [0, 4, 9]),
]
UNBALANCED = [
    (paper_of(("start", 0, 1)), 0),
    (paper_of(("end", 0, 1)), 0),
    (paper_of(("start", 1, 1), ("end", 1, 2)), 1),
    (paper_of(("start", 1, 2), ("end", 1, 1)), 1),
    (paper_of(("start", 2, 2), ("end", 1, 2)), 1),
    (paper_of(("start", 0, 1), ("wait", 0, 1)), 1),
    (paper_of(("wait", 0, 1), ("end", 1, 1)), 0),
    (paper_of(("start", 0, 1), ("wait", 0, 1), ("wait", 1, 1)), 2),
    (paper_of(("hold", 0, 1)), 0),
    (paper_of(("hold", 2, 1)), 2),
    (paper_of(("hold", 4, 1)), 0),
    (paper_of(("hold", 1, 1), ("end", 0, 1)), 0),
    (paper_of(("start", 2, 3), ("hold", 2, 2)), 2),
    (paper_of(("start", 1, 1), ("hold", 1, 1), ("end", 1, 1)), 1),
    (paper_of(("wait", 3, "1/3"), ("wait", 4, "1/2")), 0),
    (paper_of(("end", 2, 1), ("end", 1, 1)), 1),
]


class TestLook(Asking):
    def is_none(self, thing, number, net=NET):
        self.assertEqual(self.refused(NoPaper, look_at_paper, net, thing).number, number, repr(thing))

    def test_papers(self):
        self.assertIsNone(look_at_net(NET))
        for paper, amounts in PAPERS:
            self.assertIsNone(self.asked(look_at_paper, NET, paper))
            self.assertEqual(self.asked(amounts_of, NET, paper), [part(amount) for amount in amounts])

    def test_what_is_no_list(self):
        for thing in things_of_every_kind() + [tuple(ALONG), {0: ALONG}, dict(ALONG), ALONG[0]]:
            if not isinstance(thing, list):
                self.is_none(thing, None)

    def test_things_of_every_kind_in_a_list(self):
        for thing in things_of_every_kind():
            self.is_none([thing], 0)
            self.is_none(ALONG + [thing, None], 5)
            self.is_none([(("start", 0), (1, 1)), (("end", 0), thing)], 1)
            self.is_none([(("start", 0), (1, 1)), (thing, (1, 1))], 1)
            self.is_none([((thing, 0), (1, 1))], 0)
            if thing not in (0, 1) or isinstance(thing, bool):
                self.is_none([(("start", thing), (1, 1))], 0)

    def test_what_is_no_such_tuple(self):
        wrong = [[("start", 0), (1, 1)], (("start", 0),), (("start", 0), (1, 1), 0), ((1, 1), ("start", 0))]
        wrong += [(["start", 0], (1, 1)), (("start",), (1, 1)), (("start", 0, 0), (1, 1)), ((0, "start"), (1, 1))]
        wrong += [(("begin", 0), (1, 1)), (("Start", 0), (1, 1)), (("", 0), (1, 1)), ((b"start", 0), (1, 1))]
        wrong += [(("from", 0), (1, 1)), (("group", 0), (1, 1)), (("whole", 0), (1, 1)), (("waits", 0), (1, 1))]
        for thing in wrong:
            self.is_none([thing], 0)
            self.is_none([(("start", 0), (1, 1)), thing, None], 1)

    def test_amounts_are_fractions_above_nought(self):
        for amount in ((0, 1), (-1, 1), (-1, 7), (2, 2), (0, 2), (1, 0), (1, -1), [1, 1], 1, True, None, (1, True)):
            self.is_none([(("start", 0), amount), (("end", 0), amount)], 0)
            self.is_none([(("start", 0), (1, 1)), (("end", 0), amount)], 1)
        self.assertIsNone(look_at_paper(NET, paper_of(("start", 0, "1/999"), ("end", 0, "1/999"))))

    def test_numbers_of_works_waits_and_holds(self):
        for word, many in (("start", 3), ("end", 3), ("wait", 5), ("hold", 5)):
            self.is_none([((word, many), (1, 1))], 0)
            self.is_none([((word, -1), (1, 1))], 0)
            self.is_none([((word, False), (1, 1))], 0)
            self.refused(Unbalanced, look_at_paper, NET, [((word, many - 1), (1, 1))])
        bare = (WORKS, [], [], [])
        for word in ("wait", "hold"):
            self.is_none([((word, 0), (1, 1))], 0, bare)

    def test_an_arc_that_stood_ahead(self):
        twice = paper_of(("start", 0, 1), ("end", 0, 2), ("start", 0, 1))
        self.is_none(twice, 2)
        self.is_none(twice + [None], 2)
        self.is_none(paper_of(("wait", 3, 1), ("wait", 3, 1), ("wait", 4, 2)), 1)
        self.is_none(paper_of(("hold", 0, 1), ("hold", 4, 1), ("hold", 0, 1)), 2)

    def test_unbalanced(self):
        for paper, work in UNBALANCED:
            self.assertEqual(self.refused(Unbalanced, look_at_paper, NET, paper).work, work, repr(paper))

    def test_a_work_whose_amount_would_be_below_nought(self):
        # Along its tills more goes off than goes in, though nothing of it goes off at its end.
        net = ([("a", straight((1, 0)))], [], [("till", 0, (1, 1)), ("by", 0, (1, 1))], [])
        self.assertEqual(self.refused(Unbalanced, look_at_paper, net, paper_of(("hold", 0, 1))).work, 0)
        more = paper_of(("start", 0, 1), ("hold", 0, 2))
        self.assertEqual(self.refused(Unbalanced, look_at_paper, net, more).work, 0)

    def test_form_comes_ahead_of_balance(self):
        self.is_none(paper_of(("start", 0, 1)) + [None], 1)
        self.is_none(paper_of(("start", 0, 1), ("start", 0, 1)), 1)
        self.is_none(paper_of(("start", 0, 1), ("start", 9, 1)), 1)

    def test_every_function_refuses_what_is_no_paper(self):
        asks = [(look_at_paper, ()), (amounts_of, ()), (claims_of, ()), (claimed, ((9, 1),)), (bars, ((9, 1),))]
        for tell, more in asks + [(is_tight, (PLAN, (9, 1)))]:
            for thing in things_of_every_kind():
                if not isinstance(thing, list):
                    self.assertIsNone(self.refused(NoPaper, tell, NET, thing, *more).number)
                self.assertEqual(self.refused(NoPaper, tell, NET, ALONG + [thing], *more).number, 5)
            for paper, work in UNBALANCED:
                self.assertEqual(self.refused(Unbalanced, tell, NET, paper, *more).work, work)

    def test_random_papers(self):
        source = chance(21)
        for number in range(150):
            net, plans, whole = net_around(source, ("straight", "steps"), 4, 1)
            paper = random_paper(source, net)
            self.assertIsNone(self.asked(look_at_paper, net, paper))
            amounts = self.asked(amounts_of, net, paper)
            for work, amount in enumerate(amounts):
                self.assertEqual(frac(amount), self.off_at_end(net, paper, work))
            if paper:
                arc, amount = source.choice(paper)
                spoilt = [one if one[0] != arc else (arc, part(frac(amount) + 1)) for one in paper]
                self.refused(Unbalanced, look_at_paper, net, spoilt)

    def off_at_end(self, net, paper, work):
        total = 0
        for (word, number), amount in paper:
            ends = word == "end" and number == work
            goes = word == "wait" and net[1][number][0] == work
            held = word == "hold" and net[2][number][:2] == ("by", work)
            total += frac(amount) if ends or goes or held else 0
        return total


if __name__ == "__main__":
    unittest.main()
