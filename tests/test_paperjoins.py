"""Promises 9.5 and 0.4 (f): papers of nets beside and behind one another, turned, scaled."""

import unittest
from fractions import Fraction

from hurryprice.claims import claims_of
from hurryprice.errors import NoJoin
from hurryprice.joins import net_scaled, net_turned, nets_behind, nets_beside
from hurryprice.paperjoins import paper_behind, paper_beside, paper_scaled, paper_turned
from hurryprice.papers import look_at_paper
from hurryprice.stairlook import lets_stair
from hurryprice.stairs import stair_of
from tests.asking import Asking, chance, frac, part, straight
from tests.samples import net_around, random_paper
from tests.stairrules import ROW, planned_net, ring_net
from tests.test_joins import renamed
from tests.test_papers import ALONG, NET, paper_of

WORDS = ["start", "end", "wait", "hold"]
SPARE = ([("x", straight((4, 0), (2, 6))), ("y", straight((3, 1), (1, 9)))], [(0, 1, (1, 2))], [], [])


class Papers(Asking):
    def in_order(self, net, paper):
        """It is a paper of the net, its arcs in the order of 8.6."""
        self.assertIsNone(look_at_paper(net, paper))
        self.assertIs(type(paper), list)
        places = [(WORDS.index(word), number) for (word, number), amount in paper]
        self.assertEqual(places, sorted(places))

    def claims(self, net, paper):
        return [frac(one) for one in claims_of(net, paper)]

    def of_rate(self, source, net, rate):
        """A paper by chance of this rate: scaled, or with a straight way more."""
        paper = random_paper(source, net)
        mine = self.claims(net, paper)[1]
        if mine > 0:
            return [(arc, part(frac(amount) * rate / mine)) for arc, amount in paper]
        amounts = {arc: frac(amount) for arc, amount in paper}
        for arc in (("start", 0), ("end", 0)):
            amounts[arc] = amounts.get(arc, 0) + rate
        return [(arc, part(amount)) for arc, amount in amounts.items() if amount > 0]


class TestBeside(Papers):
    def test_numbers_so_many_greater(self):
        other = paper_of(("wait", 0, 2), ("end", 1, 3), ("start", 0, 2), ("start", 1, 1))
        made = self.asked(paper_beside, NET, ALONG, SPARE, other)
        self.assertEqual(made, paper_of(("start", 0, "1/2"), ("start", 3, 2), ("start", 4, 1), ("end", 2, "1/2"),
                                        ("end", 4, 3), ("wait", 0, "1/3"), ("wait", 1, "1/2"), ("wait", 3, "1/6"),
                                        ("wait", 5, 2)))
        self.in_order(nets_beside(NET, SPARE), made)

    def test_holds(self):
        other = paper_of(("hold", 4, 1), ("end", 0, 2), ("start", 0, "1/4"), ("hold", 0, "11/4"))
        made = self.asked(paper_beside, NET, other, NET, other)
        self.assertEqual(made, paper_of(("start", 0, "1/4"), ("start", 3, "1/4"), ("end", 0, 2), ("end", 3, 2),
                                        ("hold", 0, "11/4"), ("hold", 4, 1), ("hold", 5, "11/4"), ("hold", 9, 1)))
        self.in_order(nets_beside(NET, renamed(NET)), made)

    def test_papers_of_nothing(self):
        self.assertEqual(self.asked(paper_beside, NET, [], SPARE, []), [])
        self.assertEqual(self.asked(paper_beside, SPARE, [], SPARE, paper_of(("start", 1, 1), ("end", 1, 1))),
                         paper_of(("start", 3, 1), ("end", 3, 1)))

    def test_rates_prices_lengths_add(self):
        source = chance(101)
        for number in range(100):
            nets = [net_around(source, ("straight", "steps"), 4, 1)[0] for turn in range(2)]
            one, other = [random_paper(source, net) for net in nets]
            made = self.asked(paper_beside, nets[0], one, nets[1], other)
            joined = nets_beside(nets[0], renamed(nets[1]))
            self.in_order(joined, made)
            sums = [mine + theirs for mine, theirs in zip(self.claims(nets[0], one), self.claims(nets[1], other))]
            self.assertEqual(self.claims(joined, made), sums)


class TestBehind(Papers):
    def test_one_way(self):
        paper = paper_of(("start", 0, 2), ("wait", 0, 2), ("end", 1, 2))
        made = self.asked(paper_behind, SPARE, paper, ROW, paper, (7, 1))
        self.assertEqual(made, paper_of(("start", 0, 2), ("end", 3, 2), ("wait", 0, 2), ("wait", 1, 2), ("wait", 4, 2)))
        self.in_order(nets_behind(SPARE, ROW, (7, 1)), made)

    def test_several_ends_and_starts(self):
        one = paper_of(("end", 1, 1), ("end", 0, 3), ("start", 1, 1), ("start", 0, 3))
        other = paper_of(("start", 0, "1/2"), ("end", 1, "7/2"), ("end", 0, "1/2"), ("start", 1, "7/2"))
        made = self.asked(paper_behind, SPARE, one, ROW, other, (1, 3))
        joined = nets_behind(SPARE, ROW, (1, 3))
        self.in_order(joined, made)
        self.carries(SPARE, one, ROW, other, made)
        # Two waits of the nets themselves come first, without an amount.
        self.assertTrue(all(number >= 2 for (word, number), amount in made if word == "wait"))

    def carries(self, one_net, one, other_net, other, made):
        """The arcs are those told, and each end's and each start's amount goes on by the waits between."""
        many, holds = len(one_net[0]), len(one_net[2])
        first, width = len(one_net[1]) + len(other_net[1]), len(other_net[0])
        kept = {arc: amount for arc, amount in one if arc[0] != "end"}
        for (word, number), amount in other:
            if word != "start":
                more = {"end": many, "wait": len(one_net[1]), "hold": holds}[word]
                kept[(word, number + more)] = amount
        ends, starts = {}, {}
        for (word, number), amount in made:
            if word == "wait" and number >= first:
                end, start = ("end", (number - first) // width), ("start", (number - first) % width)
                ends[end] = ends.get(end, 0) + frac(amount)
                starts[start] = starts.get(start, 0) + frac(amount)
            else:
                self.assertEqual(kept.pop((word, number)), amount)
        self.assertEqual(kept, {})
        self.assertEqual(ends, {arc: frac(amount) for arc, amount in one if arc[0] == "end"})
        self.assertEqual(starts, {arc: frac(amount) for arc, amount in other if arc[0] == "start"})

    def test_papers_of_nothing_and_of_no_rate(self):
        self.assertEqual(self.asked(paper_behind, NET, [], SPARE, [], (1, 1)), [])
        ring = paper_of(("wait", 0, 2), ("wait", 1, 2), ("wait", 2, 2), ("hold", 0, 3), ("hold", 4, 3))
        self.assertEqual(self.asked(paper_behind, NET, ring[::-1], SPARE, [], (1, 1)), ring)

    def test_unlike_rates(self):
        one = paper_of(("start", 0, 2), ("end", 0, 2))
        for other in ([], paper_of(("start", 0, 1), ("end", 0, 1)), paper_of(("start", 1, "5/2"), ("end", 1, "5/2"))):
            self.refused(NoJoin, paper_behind, SPARE, one, ROW, other, (1, 1))
            self.refused(NoJoin, paper_behind, SPARE, other, ROW, one, (1, 1))
        # Rates are those of the ends: what goes in by a hold, or leaves by one, counts not.
        held = paper_of(("hold", 0, 3), ("hold", 4, 1), ("end", 0, 2))
        self.assertIsNone(look_at_paper(NET, held))
        self.assertEqual(len(self.asked(paper_behind, NET, held, ROW, one, (1, 1))), 4)

    def test_rate_price_and_length(self):
        source = chance(102)
        for number in range(120):
            one_net = net_around(source, ("straight", "steps"), 4, 1)[0]
            other_net = net_around(source, ("straight", "steps"), 4, 1)[0]
            other_net = (*other_net[:2], [], other_net[3])
            rate = Fraction(source.randint(1, 9), 3)
            wait = Fraction(source.randint(0, 5), 2)
            one, other = self.of_rate(source, one_net, rate), self.of_rate(source, other_net, rate)
            made = self.asked(paper_behind, one_net, one, other_net, other, part(wait))
            joined = nets_behind(one_net, renamed(other_net), part(wait))
            self.in_order(joined, made)
            self.carries(one_net, one, other_net, other, made)
            (price, mine, length), theirs = self.claims(one_net, one), self.claims(other_net, other)
            expected = [price + theirs[0] + rate * wait, rate, length + theirs[2] + rate * wait]
            self.assertEqual(self.claims(joined, made), expected)


class TestTurnedAndScaled(Papers):
    def test_turned(self):
        made = self.asked(paper_turned, ALONG)
        self.assertEqual(made, paper_of(("start", 2, "1/2"), ("end", 0, "1/2"), ("wait", 0, "1/3"), ("wait", 1, "1/2"),
                                        ("wait", 3, "1/6")))
        self.assertEqual(self.asked(paper_turned, []), [])

    def test_scaled(self):
        made = self.asked(paper_scaled, ALONG, (2, 1), (3, 1))
        self.assertEqual(made, paper_of(("start", 0, "3/4"), ("end", 2, "3/4"), ("wait", 0, "1/2"), ("wait", 1, "3/4"),
                                        ("wait", 3, "1/4")))
        self.assertEqual(self.asked(paper_scaled, [], (2, 1), (3, 1)), [])

    def test_claims(self):
        source = chance(103)
        for number in range(100):
            net = net_around(source, ("straight", "steps"), 4, 1)[0]
            paper = random_paper(source, net)
            span, cost = Fraction(source.randint(1, 9), 4), Fraction(source.randint(1, 9), 5)
            made = self.asked(paper_scaled, paper, part(span), part(cost))
            scaled = net_scaled(net, part(span), part(cost))
            self.in_order(scaled, made)
            price, rate, length = self.claims(net, paper)
            self.assertEqual(self.claims(scaled, made), [cost * price, cost * rate / span, cost * length])
            bare = (*net[:2], [], net[3])
            paper = random_paper(source, bare)
            turned = self.asked(paper_turned, paper)
            self.in_order(net_turned(bare), turned)
            self.assertEqual(self.claims(net_turned(bare), turned), self.claims(bare, paper))
            self.assertEqual(sorted(paper_turned(turned)), sorted(paper))


class TestPapersOfStairs(Papers):
    def test_none_stays_none(self):
        source = chance(104)
        for number in range(20):
            good, bad = planned_net(source, 3), renamed(ring_net(source, Fraction(1, 5)))
            word, paper = stair_of(bad)
            self.assertEqual(word, "none")
            joined = nets_beside(good, bad)
            self.assertIs(lets_stair(joined, ("none", paper_beside(good, [], bad, paper))), True)
            joined = nets_behind(good, bad, (1, 2))
            self.assertIs(lets_stair(joined, ("none", paper_behind(good, [], bad, paper, (1, 2)))), True)
            self.assertIs(lets_stair(net_turned(bad), ("none", paper_turned(paper))), True)

    def test_scaled_stairs_are_let_by(self):
        source = chance(105)
        span, cost = (3, 2), (5, 7)
        for number in range(20):
            net = planned_net(source, 4)
            word, bends, papers, bar = stair_of(net)
            scaled = net_scaled(net, span, cost)
            told = stair_of(scaled)
            papers = [paper_scaled(paper, span, cost) for paper in papers]
            self.assertIs(lets_stair(scaled, (word, told[1], papers, paper_scaled(bar, span, cost))), True)


if __name__ == "__main__":
    unittest.main()
