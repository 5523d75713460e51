"""Promises 14.1 to 14.5: a diary's deeds, undo, the net as it stands, what went amiss (0.4 i)."""

import copy
import unittest

from hurryprice.best import best_of
from hurryprice.counting import choice_count
from hurryprice.diary import Diary
from hurryprice.errors import NoDeed, NoDiary
from hurryprice.nets import look_at_net
from hurryprice.plans import first_broken, price_of
from tests.asking import Asking, Plain, chance, frac, kept_in, part, steps, straight, things_of_every_kind
from tests.samples import MINUTE, net_around

DIG, POUR, SET = straight((4, 0), (2, 6)), steps((5, 1), (3, 4), (1, 9)), straight((3, 2), (2, 3), (1, 9))
NET = ([("dig", DIG), ("pour", POUR), ("set", SET)],
       [(0, 1, (1, 2)), (0, 2, (0, 1)), (1, 2, (-1, 1))],
       [("from", 0, (1, 1)), ("till", 1, (6, 1)), ("by", 1, (8, 1)), ("by", 2, (20, 1)), ("till", 0, (3, 1))], [])


def gone_through(net, *deeds):
    """A diary of the net with these deeds: moments, or words with a work's number."""
    diary = Diary(net)
    for deed in deeds:
        do(diary, deed)
    return diary


def do(diary, deed):
    if isinstance(deed, str) and " " in deed:
        word, number = deed.split()
        return diary.begin(int(number)) if word == "begin" else diary.end(int(number))
    return diary.go_to(part(deed))


def all_told(diary):
    """Whatever a diary tells."""
    places = [diary.place_of(work) for work in range(len(diary.stands()[0]))]
    return (diary.now(), places, diary.stands(), diary.amiss(), diary.deeds())


class Keeping(Asking):
    def told(self, diary):
        """All that is told; what is done to it changes nothing."""
        told = all_told(diary)
        answer = copy.deepcopy(told)
        numbers = [id(one) for one in kept_in(told)]
        self.assertEqual(len(numbers), len(set(numbers)))
        for one in kept_in(told):
            one.clear()
        self.assertEqual(all_told(diary), answer)
        self.assertIsNone(look_at_net(answer[2]))
        return answer

    def refuses(self, diary, deed, *things):
        """The deed is refused with NoDeed, and changes nothing."""
        told = self.told(diary)
        self.refused(NoDeed, deed, *things)
        self.assertEqual(self.told(diary), told)


class TestDiary(Keeping):
    def test_at_first(self):
        now, places, stands, amiss, deeds = self.told(Diary(NET))
        self.assertEqual((now, places, amiss, deeds), ((0, 1), ["to come"] * 3, [], []))
        self.assertEqual(stands, (NET[0], NET[1], NET[2] + [("from", work, (0, 1)) for work in range(3)], []))

    def test_nets_without_a_diary(self):
        pair = [("a", POUR), ("b", POUR)]
        self.refused(NoDiary, Diary, (pair, [], [], [[0, 1]]))
        self.refused(NoDiary, Diary, (pair, [], [("from", 0, (0, 1))] * 21, []))
        self.refused(NoDiary, Diary, (pair, [], [("from", 0, (0, 1))] * 40, []))

    def test_twenty_holds_and_ten_works(self):
        full = ([("abcdefghij"[at], DIG) for at in range(10)], [], [("by", at % 10, (9, 1)) for at in range(20)], [])
        diary = Diary(full)
        self.assertEqual(len(self.told(diary)[2][2]), 30)
        for work in range(10):
            diary.begin(work)
        self.assertEqual(len(self.told(diary)[2][2]), 40)

    def test_the_net_handed_in_is_not_kept(self):
        net = copy.deepcopy(NET)
        diary = Diary(net)
        told = all_told(diary)
        for one in kept_in(net):
            one.clear()
        self.assertEqual(all_told(diary), told)
        net = copy.deepcopy(NET)
        all_told(gone_through(net, "begin 0", 4, "end 0", "begin 1", 9, "end 1"))
        self.assertEqual(net, NET)

    def test_deeds_are_told_in_their_order(self):
        diary = gone_through(NET, 1, "begin 0", "3/2", "begin 2", "9/2", 7, "end 0")
        now, places, stands, amiss, deeds = self.told(diary)
        self.assertEqual((now, places), ((7, 1), ["ended", "to come", "begun"]))
        self.assertEqual(deeds, [("to", (1, 1)), ("begin", 0), ("to", (3, 2)), ("begin", 2), ("to", (9, 2)),
                                 ("to", (7, 1)), ("end", 0)])


class TestDeeds(Keeping):
    def test_moments(self):
        diary = Diary(NET)
        self.assertIsNone(diary.go_to((0, 1)))
        self.assertIsNone(diary.go_to((7, 2)))
        self.assertIsNone(diary.go_to((7, 2)))
        for wrong in ((3, 1), (0, 1), (-1, 1), part(frac((7, 2)) - MINUTE), (7, 1, 1), (14, 4), [7, 1], 7, "7", None):
            self.refuses(diary, diary.go_to, wrong)
        self.refuses(Diary(NET), Diary(NET).go_to, (-1, 10 ** 50))
        diary.go_to(part(frac((7, 2)) + MINUTE))

    def test_moments_of_every_kind(self):
        diary = gone_through(NET, 1)
        for thing in things_of_every_kind() + [Plain()]:
            self.refuses(diary, diary.go_to, thing)

    def test_works_of_every_kind(self):
        diary = gone_through(NET, "begin 0", "begin 1", 9)
        wrong = [thing for thing in things_of_every_kind() if type(thing) is not int]
        for thing in wrong + [Plain(), -1, 3, 10 ** 40, "dig", (0, 1)]:
            self.refuses(diary, diary.begin, thing)
            self.refuses(diary, diary.end, thing)

    def test_begin(self):
        diary = Diary(NET)
        self.assertIsNone(diary.begin(0))
        self.refuses(diary, diary.begin, 0)
        diary.go_to((4, 1))
        self.refuses(diary, diary.begin, 0)
        diary.end(0)
        self.refuses(diary, diary.begin, 0)
        self.assertIsNone(diary.begin(2))
        self.assertEqual([diary.place_of(work) for work in range(3)], ["ended", "to come", "begun"])

    def test_end(self):
        diary = gone_through(NET, 1)
        self.refuses(diary, diary.end, 0)
        diary.begin(0)
        self.refuses(diary, diary.end, 0)
        diary.go_to(part(3 - MINUTE))
        self.refuses(diary, diary.end, 0)
        # Just its quick time.
        diary.go_to((3, 1))
        self.assertIsNone(diary.end(0))
        self.refuses(diary, diary.end, 0)

    def test_a_work_of_no_time(self):
        diary = Diary(([("a", straight((1, 0), (0, 2)))], [], [], []))
        diary.begin(0)
        diary.end(0)
        self.assertEqual(diary.stands()[0], [("a", straight((0, 2)))])

    def test_waits_and_holds_are_not_asked(self):
        diary = gone_through(NET, "begin 2", "begin 1", 5, "end 1", "end 2", "begin 0", 50, "end 0")
        self.assertEqual(diary.place_of(0), "ended")

    def test_undo(self):
        deeds = (1, "begin 0", 2, 2, "begin 1", 4, "end 0", "begin 2", 9, "end 2", "end 1", 10)
        diary = Diary(NET)
        self.refuses(diary, diary.undo)
        ahead = []
        for deed in deeds:
            ahead.append(self.told(diary))
            do(diary, deed)
        while ahead:
            self.assertIsNone(diary.undo())
            self.assertEqual(self.told(diary), ahead.pop())
        self.refuses(diary, diary.undo)

    def test_undone_deeds_can_be_done_again(self):
        diary = gone_through(NET, 1, "begin 0", 5, "end 0")
        told = self.told(diary)
        diary.undo()
        diary.undo()
        self.assertEqual(diary.now(), (1, 1))
        diary.go_to((5, 1))
        diary.end(0)
        self.assertEqual(self.told(diary), told)
        for number in range(4):
            diary.undo()
        diary.go_to((1, 2))
        diary.begin(0)
        self.assertEqual(diary.deeds(), [("to", (1, 2)), ("begin", 0)])

    def test_a_refused_deed_is_none_to_undo(self):
        diary = gone_through(NET, 1, "begin 0")
        self.refuses(diary, diary.end, 0)
        self.refuses(diary, diary.begin, 0)
        diary.undo()
        self.assertEqual(diary.deeds(), [("to", (1, 1))])

    def test_two_diaries_of_one_net(self):
        one, other = Diary(NET), Diary(NET)
        one.begin(0)
        self.assertEqual(other.deeds(), [])
        self.assertEqual(other.place_of(0), "to come")


class TestStands(Keeping):
    def test_what_an_ended_work_took_and_its_price(self):
        for offer, rows in ((DIG, ((2, 6), (3, 3), (4, 0), (5, 0), ("7/2", "3/2"))),
                            (POUR, ((1, 9), (2, 9), (3 - MINUTE, 9), (3, 4), ("7/2", 4), (5, 1), (9, 1))),
                            (SET, ((1, 9), ("3/2", 6), (2, 3), ("5/2", "5/2"), (3, 2), (30, 2)))):
            for took, price in rows:
                took = frac(part(took))
                diary = gone_through(([("a", offer)], [], [], []), "1/3", "begin 0", took + frac((1, 3)), "end 0")
                self.assertEqual(self.told(diary)[2], ([("a", (offer[0], [(part(took), part(price))]))], [], [
                    ("from", 0, (1, 3)), ("till", 0, (1, 3))], []))

    def test_what_is_left_of_a_begun_one(self):
        for offer, rows in ((DIG, ((0, DIG), (2, DIG), (3, straight((4, 0), (3, 3))), (4, straight((4, 0))),
                                   (6, straight((6, 0))))),
                            (POUR, ((0, POUR), (1, POUR), (2, steps((5, 1), (3, 4))), (3, steps((5, 1), (3, 4))),
                                    (4, steps((5, 1))), (5, steps((5, 1))), (7, steps((7, 1)))))):
            for gone, left in rows:
                diary = gone_through(([("a", offer)], [], [], []), 1, "begin 0", 1 + gone)
                self.assertEqual(self.told(diary)[2][0], [("a", left)])

    def test_waits_and_holds(self):
        now = (9, 2)
        diary = gone_through(NET, 1, "begin 0", "9/2")
        from_now = [("from", 1, now), ("from", 2, now)]
        bound = [("from", 0, (1, 1)), ("till", 0, (1, 1))]
        self.assertEqual(self.told(diary)[2][1:], (NET[1], NET[2][1:4] + bound + from_now, []))
        # Ended, with works to come behind it: the waits are all there.
        diary.end(0)
        self.assertEqual(self.told(diary)[2][1:], (NET[1], NET[2][1:4] + bound + from_now, []))
        diary.begin(1)
        bound += [("from", 1, now), ("till", 1, now)]
        self.assertEqual(self.told(diary)[2][1:], (NET[1][1:], NET[2][2:4] + bound + from_now[1:], []))
        diary.begin(2)
        bound += [("from", 2, now), ("till", 2, now)]
        # The wait from pour, which is begun, to set is there as long as pour hasn't ended.
        self.assertEqual(self.told(diary)[2][1:], (NET[1][2:], NET[2][2:4] + bound, []))
        diary.go_to((6, 1))
        diary.end(1)
        self.assertEqual(self.told(diary)[2][1:], ([], NET[2][3:4] + bound, []))
        diary.end(2)
        self.assertEqual(self.told(diary)[2][1:], ([], bound, []))

    def test_a_wait_whose_other_began_ahead(self):
        diary = gone_through(NET, "begin 1")
        self.assertEqual(self.told(diary)[2][1], NET[1])
        diary.begin(0)
        diary.go_to((2, 1))
        self.assertEqual(self.told(diary)[2][1], NET[1])
        diary.end(0)
        self.assertEqual(self.told(diary)[2][1], NET[1][1:])


class TestAmiss(Keeping):
    def amiss(self, net, deeds, *told):
        self.assertEqual(self.told(gone_through(net, *deeds))[3], list(told))

    def test_waits(self):
        net = (NET[0], NET[1], [], [])
        self.amiss(net, (0, "begin 0", 2, "end 0", "5/2", "begin 1"))
        self.amiss(net, (0, "begin 0", 2, "end 0", part_of("5/2", -1), "begin 1"), ("wait", 0))
        self.amiss(net, (0, "begin 0", "begin 1", "begin 2"))
        self.amiss(net, (0, "begin 0", "begin 1", "begin 2", 2, "end 0"), ("wait", 0), ("wait", 1))
        self.amiss(net, (0, "begin 0", "begin 1", "begin 2", 2, "end 0", "end 2", "end 1"),
                   ("wait", 0), ("wait", 1), ("wait", 2))
        # A wait below nought: set may begin a unit ahead of pour's end, no sooner.
        self.amiss(net, ("begin 1", 1, "begin 2", 2, "end 1"))
        self.amiss(net, ("begin 1", part_of(1, -1), "begin 2", 2, "end 1"), ("wait", 2))

    def test_holds(self):
        for kind, moment, kept in (("from", 2, 2), ("from", 2, 5), ("till", 2, 2), ("till", 2, 0)):
            net = ([("a", DIG)], [], [(kind, 0, part(moment))], [])
            self.amiss(net, (kept,))
            self.amiss(net, (kept, "begin 0"))
            self.amiss(net, (kept, "begin 0", kept + 3, "end 0"))
        self.amiss(([("a", DIG)], [], [("from", 0, (2, 1))], []), (part_of(2, -1), "begin 0"), ("hold", 0))
        self.amiss(([("a", DIG)], [], [("till", 0, (2, 1))], []), (part_of(2, 1),))
        self.amiss(([("a", DIG)], [], [("till", 0, (2, 1))], []), (part_of(2, 1), "begin 0"), ("hold", 0))
        by = ([("a", DIG)], [], [("by", 0, (3, 1))], [])
        self.amiss(by, ("begin 0", 3, "end 0"))
        self.amiss(by, ("begin 0", 9))
        self.amiss(by, ("begin 0", part_of(3, 1), "end 0"), ("hold", 0))

    def test_by_their_numbers_in_the_diary_s_own_net(self):
        self.amiss(NET, ("begin 0", "begin 1", "begin 2", 2, "end 0", 9, "end 1"),
                   ("wait", 0), ("wait", 1), ("wait", 2), ("hold", 0), ("hold", 2))


def part_of(one, way):
    """A moment a little ahead of, or behind, one."""
    return frac(part(one)) + way * MINUTE


def followed(source, net, plan, last):
    """A diary that goes by a plan up to a moment; what lies just there is done, or not."""
    diary = Diary(net)
    marks = []
    for work, (start, time) in enumerate(plan):
        start, end = frac(start), frac(start) + frac(time)
        marks += [(start, 0, work), (end, 1, work)]
    for moment, what, work in sorted(marks):
        if moment > last or (moment == last and (source.random() < 0.3 or (what and diary.place_of(work) != "begun"))):
            continue
        diary.go_to(part(moment))
        diary.end(work) if what else diary.begin(work)
    diary.go_to(part(last))
    return diary


class TestByChance(Keeping):
    def test_who_goes_by_a_plan_finds_nothing_amiss(self):
        source = chance(145)
        best = 0
        for number in range(150):
            net, (plan,), whole = net_around(source, ("steps", "straight"), 4, 1)
            net = (*net[:3], [])
            if choice_count(net) > 64:
                continue
            for plan, is_best in ((plan, False), (best_of(net, whole)[2], True)):
                ends = [frac(start) + frac(time) for start, time in plan]
                marks = ends + [frac(start) for start, time in plan] + [frac(whole) / 2]
                diary = followed(source, net, plan, source.choice(marks))
                now, places, stands, amiss, deeds = self.told(diary)
                self.assertEqual(amiss, [])
                self.assertIsNone(first_broken(stands, plan, whole))
                self.assertEqual(price_of(stands, plan), price_of(net, plan))
                if is_best and choice_count(stands) <= 64:
                    best += 1
                    self.assertEqual(best_of(stands, whole)[1], price_of(net, plan))
        self.assertGreater(best, 80)


if __name__ == "__main__":
    unittest.main()
