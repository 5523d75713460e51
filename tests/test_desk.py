"""Promises 14.6 and 14.7: the desk's rows, what they answer, what is refused in which order (0.4 i)."""

import unittest

from hurryprice.best import best_of
from hurryprice.desk import Desk
from hurryprice.errors import (
    HurryError, NoChange, NoDeed, NoDiary, NoName, NoPaper, NoRow, NotSteps, NotStraight, NoText, TooMany, Unbalanced)
from hurryprice.flights import flight_of
from hurryprice.nettexts import read_net, shown_net, shown_ratio
from hurryprice.papertexts import read_paper, read_plan, shown_plan
from hurryprice.stairs import least_plan, stair_of
from hurryprice.stairtexts import read_tree
from tests.asking import Asking, Plain, chance, part, things_of_every_kind
from tests.samples import MINUTE, net_around
from tests.stairrules import ROW, long_net

ROAD = "work dig straight 4:0 2:6; work pour straight 3:1 1:9; wait dig pour 1/2"
STEPS = "work dig steps 4:0 2:6; work pour steps 3:1 1:9; wait dig pour 1/2"
BOTH = "work dig straight 4:0 2:6; work pour steps 3:1 1:9; wait dig pour 1/2"
STUCK = "work dig straight 4:0 2:6; from dig 3; by dig 4"
STUCK_STEPS = STUCK.replace("straight", "steps")
GROUPED = "work dig steps 4:0 2:6; work pour steps 3:1 1:9; group pour dig"
MANY = "; ".join(f"work {name} steps 2:0 1:1" for name in "abcdefg")


def at_desk(*rows):
    """A desk that was told these rows."""
    desk = Desk()
    for row in rows:
        desk.say(row)
    return desk


class Asked(Asking):
    def says(self, desk, *rows):
        """Each row, of pairs, is answered so."""
        for row, answer in rows:
            told = desk.say(row)
            self.assertIs(type(told), str)
            self.assertEqual(told, answer, row)

    def all_said(self, desk):
        """Whatever the desk tells of all its nets."""
        said = [desk.say("names")]
        for name in said[0].replace("-", "").split():
            said += [desk.say(f"{word} {name}") for word in ("shown", "why")]
            for word in ("now", "stands", "amiss"):
                try:
                    said.append(desk.say(f"{word} {name}"))
                except NoDiary:
                    said.append(None)
        return said

    def refuses(self, desk, error, *rows):
        """Each row is refused with just this error, and changes nothing."""
        for row in rows:
            said = self.all_said(desk)
            with self.assertRaises(HurryError, msg=repr(row)) as caught:
                desk.say(row)
            self.assertIs(type(caught.exception), error, row)
            self.assertEqual(self.all_said(desk), said)
        return caught.exception


class TestNets(Asked):
    def test_net_shown_names_drop(self):
        desk = Desk()
        self.says(desk, ("names", "-"), (f"net road {ROAD}", "ok"), ("names", "road"), ("shown road", ROAD),
                  (f"net a {STEPS}", "ok"), (f"net names {GROUPED}", "ok"), ("names", "a names road"),
                  ("shown a", STEPS),
                  ("shown names", GROUPED), (f"net a {STUCK}", "ok"), ("shown a", STUCK), ("drop a", "ok"),
                  ("names", "names road"))
        self.refuses(desk, NoName, "shown a", "drop a")
        self.says(desk, (f"net a {ROAD}", "ok"), ("drop a", "ok"), ("drop road", "ok"), ("drop names", "ok"),
                  ("names", "-"))

    def test_texts_that_are_no_net_s(self):
        desk = at_desk(f"net a {ROAD}", "least a 5", "diary a", "begin a dig")
        for text, row in (("x", 0), (" ", 0), (f" {ROAD}", 0), (f"{ROAD} ", 2), (f"{ROAD}; ", 3), (f"{ROAD};", 2),
                          (ROAD.replace("; ", ";"), 0), (ROAD.replace("; ", ";  "), 1), (f"; {ROAD}", 0),
                          (f"{ROAD}; by dog 1", 3), ("work dig straight 4:0; work dig straight 4:0", 1),
                          (ROAD.replace("; ", " ; "), 0), ("work\tdig straight 4:0", 0), (f"net a {ROAD}", 0)):
            for name in ("a", "b"):
                error = self.refuses(desk, NoText, f"net {name} {text}")
                self.assertEqual(error.row, row, text)

    def test_rows_that_are_none(self):
        desk = at_desk(f"net a {ROAD}")
        self.refuses(desk, NoRow, "net", "net ", "net a", "net a ", f"net A {ROAD}", f"net  a {ROAD}", f" net a {ROAD}",
                     f"net toolongaa {ROAD}", f"Net a {ROAD}", f"net a1 {ROAD}", f"net {ROAD.replace('; ', ' ')[5:9]}",
                     "net a " + ROAD.replace("; ", "\n"), f"net a {ROAD}\n", f"net\ta {ROAD}", "names ", "names a",
                     " names",
                     "name", "", " ", "\n", "shown", "shown ", "shown a ", "shown  a", "shown a b", "shown A", "drop",
                     "drop a b",
                     "drop a\n", "drop\na", "-", "ok", "a", "shown 1")
        self.says(desk, ("shown a", ROAD))

    def test_things_of_every_kind(self):
        desk = at_desk(f"net a {ROAD}")
        self.refuses(desk, NoRow, *things_of_every_kind(), Plain(), b"names", ["names"], ("names",))


class TestAsking(Asked):
    def test_keeps(self):
        desk = at_desk(f"net a {ROAD}; by pour 8", f"net g {GROUPED}")
        self.says(desk, ("keeps a 13/2 0 3, 7/2 3", "yes"), ("keeps a 6 0 3, 7/2 3", "whole 1"),
                  ("keeps a 20 0 3, 3 3", "wait 0"), ("keeps a 20 0 3, 6 3", "hold 0"),
                  ("keeps a 20 0 5, 6 3", "time 0"),
                  ("keeps a 20 -1 3, 7/2 3", "start 0"), ("keeps g 20 0 4, 0 1", "group 0"),
                  ("keeps g 4 0 4, 0 3", "yes"),
                  ("keeps a 0 0 3, 7/2 3", "whole 0"))

    def test_a_plan_of_another_number_of_works(self):
        desk = at_desk(f"net a {ROAD}")
        self.refuses(desk, NoRow, "keeps a 20 0 3", "keeps a 20 0 3, 7/2 3, 0 1",
                     "keeps a 20 " + ", ".join(["0 1"] * 10))
        # Behind NoName, as long as 13.3 reads it.
        self.refuses(desk, NoName, "keeps b 20 0 3", "keeps b 20 0 3, 7/2 3", "keeps b 20 " + ", ".join(["0 1"] * 10))
        self.refuses(desk, NoRow, "keeps b 20 " + ", ".join(["0 1"] * 11))

    def test_claims(self):
        desk = at_desk(f"net a {ROAD}")
        self.says(desk, ("claims a 13/2 start 0 3, wait 0 3, end 1 3", "4"),
                  ("claims a 3 start 0 3, wait 0 3, end 1 3", "bars"),
                  ("claims a 7/2 start 0 3, wait 0 3, end 1 3", "13"), ("claims a 0 -", "1"),
                  ("claims a 99/2 start 0 3, wait 0 3, end 1 3", "-125"), ("claims a 4 start 0 1/2, end 0 1/2", "1"))
        self.assertEqual(self.refuses(desk, NoPaper, "claims a 1 end 0 1, wait 1 1").number, 1)
        self.assertEqual(self.refuses(desk, NoPaper, "claims a 1 start 1 1, end 1 1, end 1 1").number, 2)
        self.assertEqual(self.refuses(desk, Unbalanced, "claims a 1 end 1 1").work, 1)

    def test_stair_and_flight(self):
        desk = at_desk(f"net a {ROAD}", f"net s {STEPS}", f"net b {BOTH}", f"net c {STUCK}", f"net d {STUCK_STEPS}",
                       f"net m {MANY}")
        self.says(desk, ("stair a", "7/2 15, 11/2 7, 15/2 1"), ("flight s", "7/2 15, 11/2 7, 15/2 1"),
                  ("stair c", "none"),
                  ("flight d", "none"))
        self.refuses(desk, NotStraight, "stair s", "stair b", "stair d", "stair m")
        self.refuses(desk, NotSteps, "flight a", "flight b", "flight c")
        self.refuses(desk, TooMany, "flight m", "least m 9")

    def test_least_and_why(self):
        desk = at_desk(f"net a {ROAD}", f"net b {BOTH}", f"net c {STUCK}", f"net d {STUCK_STEPS}")
        for name, text, tell, read in (("a", ROAD, least_plan, read_paper), ("c", STUCK, least_plan, read_paper),
                                       ("b", BOTH, best_of, read_tree), ("d", STUCK_STEPS, best_of, read_tree)):
            net = read_net(text.replace("; ", "\n"))
            self.says(desk, (f"why {name}", "-"))
            for whole in ("5", "7/2", "3", "100", "0"):
                told = tell(net, part(whole))
                answer = f"{shown_ratio(told[1])} by {shown_plan(told[2])}" if told[0] == "plan" else "none"
                self.says(desk, (f"least {name} {whole}", answer))
                self.assertEqual(read(desk.say(f"why {name}")), told[-1])

    def test_why_ahead_of_behind_and_behind_a_change(self):
        desk = at_desk(f"net a {ROAD}", f"net b {ROAD}")
        self.says(desk, ("why a", "-"), ("why b", "-"))
        desk.say("least a 5")
        why = desk.say("why a")
        self.assertNotEqual(why, "-")
        self.says(desk, ("why b", "-"), ("stair a", "7/2 15, 11/2 7, 15/2 1"), ("diary a", "ok"), ("left a 3", "none"),
                  ("left a 100", "1 by 0 4, 9/2 3"), ("why a", why))
        self.refuses(desk, NoChange, "change a gone 2")
        self.refuses(desk, NoText, "net a x")
        self.says(desk, ("why a", why), ("change a lag 0 1/2", "ok"), ("why a", "-"))
        desk.say("least a 5")
        self.says(desk, (f"net a {ROAD}", "ok"), ("why a", "-"))
        desk.say("least a 5")
        self.says(desk, ("drop a", "ok"), (f"net a {ROAD}", "ok"), ("why a", "-"))

    def test_why_is_the_last_one_s(self):
        desk = at_desk(f"net a {ROAD}", "least a 100")
        self.says(desk, ("why a", "-"))
        desk.say("least a 3")
        self.assertEqual(sorted(desk.say("why a").split(", ")), ["end 1 1", "start 0 1", "wait 0 1"])
        desk.say("least a 100")
        self.says(desk, ("why a", "-"))
        many = at_desk(f"net m {MANY}", "change m gone 0", "least m 1")
        why = many.say("why m")
        self.assertNotEqual(why, "-")

    def test_purse_and_days(self):
        desk = at_desk(f"net a {ROAD}", f"net c {STUCK}", f"net s {STEPS}")
        self.says(desk, ("purse a 4", "13/2"), ("purse a 1", "15/2"), ("purse a 1/2", "none"), ("purse a 100", "7/2"),
                  ("purse a 0", "none"), ("purse c 100", "none"), ("days a 7/2", "11/2 105/4"), ("days a 0", "15/2 1"),
                  ("days a 4", "7/2 29"), ("days a 3", "11/2 47/2"), ("days c 0", "none"), ("days c 9", "none"))
        self.refuses(desk, NotStraight, "purse s 4", "days s 4")

    def test_longer_numbers_are_answered(self):
        net = long_net(chance(146), 4, 4, 5, 0)
        desk = at_desk("net a " + shown_net(net).replace("\n", "; "))
        answer = desk.say("stair a")
        self.assertGreater(max(len(word) for word in answer.split()), 200)
        self.assertEqual(answer, ", ".join(f"{shown_ratio(whole)} {shown_ratio(price)}"
                                           for whole, price, plan in stair_of(net)[1]))

    def test_rows_that_are_none(self):
        desk = at_desk(f"net a {ROAD}", "diary a")
        for row in ("keeps a 20 0 4, 9/2 3", "claims a 5 start 0 1, end 0 1", "least a 5", "purse a 5", "days a 5",
                    "left a 5"):
            word, name, *rest = row.split(" ")
            rest = " ".join(rest)
            tail = rest[1:] if word != "keeps" else rest[2:]
            self.refuses(desk, NoRow, word, f"{word} a", f"{word} a ", f"{word} {rest}", f"{word} a -1{tail}",
                         f"{word} a -0{tail}",
                         f"{word} a 2/4{tail}", f"{word} a x{tail}", f"{word} A {rest}", f"{word}  a {rest}",
                         f"{word} a  {rest}",
                         f" {row}", f"{row} ", f"{row} 1", f"{row}\n", f"{word}\n a {rest}", f"{word.upper()} a {rest}",
                         f"{word} a b {rest}", f"{word} a -{MINUTE}{tail}", f"{word} a 1{'0' * 60}{tail}")
            self.refuses(desk, NoName, f"{word} b {rest}")
        for word in ("stair", "flight", "why", "shown", "drop", "diary", "undo", "now", "stands", "amiss"):
            self.refuses(desk, NoRow, word, f"{word} ", f"{word} a ", f"{word} a 1", f"{word}  a", f"{word} A",
                         f"{word} 1",
                         f"{word} a\n", f" {word} a", f"{word}\ta")
            self.refuses(desk, NoName, f"{word} b")
        self.refuses(desk, NoRow, "keeps a 20 0 4,9/2 3", "keeps a 20 0 -4, 9/2 3", "keeps a 20 -",
                     "keeps a 20 0 4, 9/2",
                     "claims a 5 start 0 0", "claims a 5 start 0", "claims a 5", "claims a 5 start 100 1",
                     "claims a 5 " + ", ".join(["end 0 1"] * 101))
        self.refuses(desk, NoPaper, "claims a 5 " + ", ".join(["end 0 1"] * 100))


class TestChange(Asked):
    def changes(self, text, change, after):
        desk = at_desk(f"net a {text}", f"net b {text}", "least a 9", "least b 9")
        why = desk.say("why b")
        self.says(desk, (f"change a {change}", "ok"), ("shown a", after), ("why a", "-"), ("shown b", text),
                  ("why b", why))

    def test_each_kind(self):
        self.changes(ROAD, "offer 0 steps 5/2:1", ROAD.replace("straight 4:0 2:6", "steps 5/2:1"))
        self.changes(ROAD, "offer 1 straight 3:1 2:2 1:9", ROAD.replace("3:1 1:9", "3:1 2:2 1:9"))
        self.changes(ROAD, "work set steps 3:1 2:2 1:9", ROAD.replace("; wait", "; work set steps 3:1 2:2 1:9; wait"))
        self.changes(ROAD, "gone 0", "work pour straight 3:1 1:9")
        self.changes(ROAD, "wait 1 0 -20", f"{ROAD}; wait pour dig -20")
        self.changes(ROAD, "lag 0 -1/3", ROAD.replace("1/2", "-1/3"))
        self.changes(ROAD, "unwait 0", ROAD.partition("; wait")[0])
        self.changes(ROAD, "hold till 1 -1/3", f"{ROAD}; till pour -1/3")
        self.changes(STUCK, "moment 1 9", STUCK.replace("by dig 4", "by dig 9"))
        self.changes(STUCK, "unhold 0", STUCK.replace("; from dig 3", ""))
        self.changes(STEPS, "group 1 0", f"{STEPS}; group pour dig")
        self.changes(GROUPED, "ungroup 0", GROUPED.partition("; group")[0])

    def test_what_is_no_change_of_the_net(self):
        desk = at_desk(f"net a {ROAD}", "least a 5", "diary a", "begin a dig")
        self.refuses(desk, NoChange, "change a offer 2 steps 1:1", "change a offer 99 steps 1:1",
                     "change a offer 0 stairs 1:1",
                     "change a offer 0 steps 1:1 1:1", "change a offer 0 steps -1:1", "change a offer 0 steps 1:-1",
                     "change a offer 0 steps 6:0 5:1 4:2 3:3 2:4 1:5", "change a work dig steps 1:1",
                     "change a work a x 1:1",
                     "change a gone 2", "change a wait 0 0 1", "change a wait 0 2 1", "change a lag 1 0",
                     "change a unwait 1",
                     "change a hold at 0 1", "change a hold by 2 1", "change a moment 0 1", "change a unhold 0",
                     "change a group 0 1", "change a group 0 0", "change a ungroup 0")

    def test_rows_that_are_none(self):
        desk = at_desk(f"net a {ROAD}", "least a 5", "diary a", "begin a dig")
        for change in ("", " ", "offer", "offer 0", "offer 0 steps", "offer 0 steps ", "offer 0 steps 1",
                       "offer 0 steps 1:",
                       "offer 0 steps :1", "offer 0 steps 1:1:1", "offer 0 steps 1:1 ", "offer 0 steps  1:1",
                       "offer 0 Steps 1:1",
                       "offer 100 steps 1:1", "offer -1 steps 1:1", "offer 00 steps 1:1", "offer x steps 1:1",
                       "offer steps 1:1",
                       "offer 0 steps 01:1", "offer 0 steps 1:1, 2:2", "work", "work set", "work set steps",
                       "work Set steps 1:1",
                       "work set 1 1:1", "work set steps 2/2:1", "work toolongaa steps 1:1", "work steps 1:1", "gone",
                       "gone ",
                       "gone x", "gone 0 0", "gone -1", "gone 1/2", "gone 100", "gone dig", "wait", "wait 0",
                       "wait 0 1",
                       "wait 0 1 x", "wait 0 1 1 1", "wait 0 1 2/4", "wait dig pour 1", "wait 0 100 1", "lag", "lag 0",
                       "lag 0 x",
                       "lag 0 1 1", "lag x 1", "lag 0 -0", "unwait", "unwait x", "unwait 0 0", "hold", "hold by",
                       "hold by 0",
                       "hold by 0 x", "hold by 0 1 1", "hold 0 1", "hold BY 0 1", "hold 1 0 1", "hold by dig 1",
                       "moment", "moment 0",
                       "moment 0 x", "moment 0 1 1", "moment x 1", "unhold", "unhold x", "unhold 0 0", "group",
                       "group 0",
                       "group 0 x", "group 0 ", "group x 0", "group 0  1", "group dig pour", "ungroup", "ungroup x",
                       "ungroup 0 0",
                       "Gone 0", "goner 0", "change", "0", "-", "gone\t0", "gone 0\n", "lag 0 1" + "0" * 60):
            self.refuses(desk, NoRow, f"change a {change}", f"change b {change}")
        self.refuses(desk, NoRow, "change", "change a", "change  a gone 0", "change A gone 0", " change a gone 0")
        self.refuses(desk, NoName, "change b gone 0", "change b offer 0 stairs 1:1", "change b group 5 5")

    def test_open_rows_may_be_long(self):
        desk = at_desk(f"net a {MANY}")
        self.says(desk, ("change a group 6 0 3 1", "ok"), ("shown a", f"{MANY}; group g a d b"))
        self.refuses(desk, NoChange, "change a group " + " ".join(["0"] * 50))


class TestDiary(Asked):
    def test_deeds(self):
        desk = at_desk(f"net a {ROAD}")
        self.says(desk, ("diary a", "ok"), ("now a", "0"), ("amiss a", "-"), ("begin a dig", "ok"), ("at a 3", "ok"),
                  ("now a", "3"), ("end a dig", "ok"), ("begin a pour", "ok"), ("amiss a", "wait 0"),
                  ("stands a",
                   "work dig straight 3:3; work pour straight 3:1 1:9; from dig 0; till dig 0; from pour 3; "
                               "till pour 3"),
                  ("at a 11/2", "ok"), ("stands a",
                                        "work dig straight 3:3; work pour straight 3:1 5/2:3; from dig 0; till dig 0; "
                                                    "from pour 3; till pour 3"),
                  ("left a 6", "4 by 0 3, 3 3"), ("left a 11/2", "6 by 0 3, 3 5/2"), ("left a 5", "none"),
                  ("undo a", "ok"), ("undo a", "ok"), ("undo a", "ok"), ("now a", "3"), ("amiss a", "-"),
                  ("stands a", "work dig straight 4:0 3:3; work pour straight 3:1 1:9; wait dig pour 1/2; from dig 0; "
                               "till dig 0; from pour 3"), ("shown a", ROAD))
        self.refuses(desk, NoDeed, "at a 2", "at a -1", "begin a dig", "end a pour", "begin a dog", "end a dog",
                     "end a by")
        self.says(desk, ("undo a", "ok"), ("undo a", "ok"), ("now a", "0"))
        self.refuses(desk, NoDeed, "undo a", "end a dig", "at a -1/2")

    def test_several_amiss(self):
        desk = at_desk(f"net a {ROAD}; from dig 1; by dig 2", "diary a", "begin a dig", "begin a pour", "at a 3",
                       "end a dig")
        self.says(desk, ("amiss a", "wait 0, hold 0, hold 1"))

    def test_left_of_steps(self):
        desk = at_desk(f"net a {STEPS}", "least a 5", "diary a", "begin a dig", "at a 3")
        why = desk.say("why a")
        self.says(desk, ("left a 8", "1 by 0 4, 9/2 3"), ("left a 11/2", "9 by 0 4, 9/2 1"), ("left a 5", "none"),
                  ("why a", why))
        many = at_desk("net m work x straight 1:0; " + MANY, "diary m")
        self.refuses(many, TooMany, "left m 9")

    def test_a_diary_begins_anew(self):
        desk = at_desk(f"net a {ROAD}", "diary a", "at a 3", "begin a dig")
        self.says(desk, ("diary a", "ok"), ("now a", "0"), ("begin a dig", "ok"))
        self.refuses(desk, NoDeed, "begin a dig")

    def test_nets_without_a_diary(self):
        holds = "; by dig 9" * 21
        desk = at_desk(f"net g {GROUPED}", f"net h work dig straight 1:0{holds}",
                       f"net k work dig straight 1:0{holds[10:]}")
        self.refuses(desk, NoDiary, "diary g", "diary h")
        self.says(desk, ("diary k", "ok"))

    def test_what_takes_a_diary_away(self):
        for row in (f"net a {ROAD}", "change a lag 0 1", "drop a"):
            desk = at_desk(f"net a {ROAD}", f"net b {ROAD}", "diary a", "diary b", "at a 1", "at b 2")
            self.says(desk, (row, "ok"))
            self.refuses(desk, NoName if row == "drop a" else NoDiary, "now a", "undo a")
            self.says(desk, ("now b", "2"))
        desk = at_desk(f"net a {ROAD}", "diary a", "at a 1")
        self.refuses(desk, NoChange, "change a lag 1 1")
        self.refuses(desk, NoText, "net a x")
        self.says(desk, ("now a", "1"), ("least a 5", "9 by 0 2, 5/2 5/2"), ("now a", "1"))

    def test_which_refusal_comes_first(self):
        desk = at_desk(f"net a {ROAD}")
        for row in ("at {} 1", "begin {} dig", "end {} dig", "undo {}", "now {}", "stands {}", "amiss {}", "left {} 5",
                    "begin {} dog", "at {} -1"):
            self.refuses(desk, NoDiary, row.format("a"))
            self.refuses(desk, NoName, row.format("b"))
            self.refuses(desk, NoRow, row.format("A"), row.format("a") + " 1", row.format("b") + " 1",
                         row.format("b") + "\n")
        self.refuses(desk, NoRow, "at b x", "at b", "at b 2/2", "begin b", "begin b D", "begin b 1", "end b toolongaa",
                     "left b -1",
                     "left b", "at a 01", "begin a dig pour", "end a ")

    def test_the_diary_keeps_the_net_it_began_with(self):
        desk = at_desk(f"net a {ROAD}", "diary a", f"net b {STEPS}", "diary b", "begin b dig", "at b 2", "end b dig")
        self.says(desk, ("stands a", f"{ROAD}; from dig 0; from pour 0"),
                  ("stands b",
                   "work dig steps 2:6; work pour steps 3:1 1:9; wait dig pour 1/2; from dig 0; till dig 0; "
                               "from pour 2"))


class TestByChance(Asked):
    def test_desks_say_what_the_points_tell(self):
        source = chance(147)
        for number in range(40):
            net, (plan,), whole = net_around(source, ("steps", "straight"), 4, 1)
            text = shown_net(net).replace("\n", "; ")
            desk = at_desk(f"net a {text}")
            self.says(desk, ("shown a", text), (f"keeps a {shown_ratio(whole)} {shown_plan(plan)}", "yes"))
            try:
                answer = desk.say(f"least a {shown_ratio(whole)}")
            except TooMany:
                continue
            price, word, told = answer.partition(" by ")
            self.says(desk, (f"keeps a {shown_ratio(whole)} {told}", "yes"))
            self.assertEqual(len(read_plan(told)), len(net[0]))
            self.assertEqual(answer, f"{shown_ratio(best_of(net, whole)[1])} by {told}")
            if all(offer[0] == "steps" for name, offer in net[0]):
                treads = flight_of(net)[1]
                self.says(desk, ("flight a",
                                 ", ".join(f"{shown_ratio(one[0])} {shown_ratio(one[1])}" for one in treads)))

    def test_two_desks(self):
        one, other = Desk(), Desk()
        one.say(f"net a {ROAD}")
        self.says(other, ("names", "-"))
        self.assertEqual(ROW[1], read_net(ROAD.replace("; ", "\n"))[1])


if __name__ == "__main__":
    unittest.main()
