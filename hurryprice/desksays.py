"""What the desk answers to rows that ask of a net, and to rows of a diary."""

from hurryprice.best import best_of
from hurryprice.claims import bars, claimed
from hurryprice.errors import NoRow
from hurryprice.flights import flight_of
from hurryprice.nets import is_straight
from hurryprice.nettexts import number_of, shown_net, shown_ratio
from hurryprice.papertexts import shown_paper, shown_plan
from hurryprice.plans import first_broken
from hurryprice.purses import soonest_for
from hurryprice.shapes import shape_of
from hurryprice.stairs import least_plan, stair_of
from hurryprice.stairtexts import shown_tree
from hurryprice.tolls import least_cost


def shown_on_one_row(net):
    """A net's writing with ; and a blank in the place of each line feed."""
    return shown_net(net).replace("\n", "; ")


def shown_wish(wish):
    """The word and the number of a wish."""
    return f"{wish[0]} {wish[1]}"


def shown_pairs(bends):
    """Whole and price of each bend or tread."""
    return ", ".join([f"{shown_ratio(bend[0])} {shown_ratio(bend[1])}" for bend in bends])


def least_told(net, whole):
    """A tuple (answer, why): price and writing of the least plan, or none; the writing of what shows it."""
    if is_straight(net):
        told = least_plan(net, whole)
        why = shown_paper(told[-1])
    else:
        told = best_of(net, whole)
        why = shown_tree(told[-1])
    answer = f"{shown_ratio(told[1])} by {shown_plan(told[2])}" if told[0] == "plan" else "none"
    return (answer, why)


def say_shown(net, things):
    """Answers the row shown."""
    return shown_on_one_row(net)


def say_keeps(net, things):
    """Answers the row keeps; NoRow of a plan with another number of works."""
    whole, plan = things
    if len(plan) != len(net[0]):
        raise NoRow("this plan is of another number of works")
    broken = first_broken(net, plan, whole)
    return "yes" if broken is None else shown_wish(broken)


def say_claims(net, things):
    """Answers the row claims."""
    whole, paper = things
    return "bars" if bars(net, paper, whole) else shown_ratio(claimed(net, paper, whole))


def say_stair(net, things):
    """Answers the row stair."""
    stair = stair_of(net)
    return "none" if stair[0] == "none" else shown_pairs(stair[1])


def say_flight(net, things):
    """Answers the row flight."""
    flight = flight_of(net)
    return "none" if flight[0] == "none" else shown_pairs(flight[1])


def say_purse(net, things):
    """Answers the row purse."""
    stair = stair_of(net)
    whole = None if stair[0] == "none" else soonest_for(shape_of(stair), things[0])
    return "none" if whole is None else shown_ratio(whole)


def say_days(net, things):
    """Answers the row days."""
    stair = stair_of(net)
    return "none" if stair[0] == "none" else shown_pairs([least_cost(shape_of(stair), things[0])])


NET_SAYS = {
    "shown": say_shown, "keeps": say_keeps, "claims": say_claims, "stair": say_stair, "flight": say_flight,
    "purse": say_purse, "days": say_days,
}


def is_net_row(word):
    """Tells whether rows of this word ask of a net alone."""
    return word in NET_SAYS


def say_of_net(word, net, things):
    """The answer to a row that asks of a net alone."""
    answer = NET_SAYS[word]
    return answer(net, things)


def number_in_diary(diary, name):
    """The number of the work of this name; None, which no work has, where none is called so."""
    return number_of(diary.net[0], name)


def say_at(diary, things):
    """Answers the row at."""
    diary.go_to(things[0])
    return "ok"


def say_begin(diary, things):
    """Answers the row begin."""
    diary.begin(number_in_diary(diary, things[0]))
    return "ok"


def say_end(diary, things):
    """Answers the row end."""
    diary.end(number_in_diary(diary, things[0]))
    return "ok"


def say_undo(diary, things):
    """Answers the row undo."""
    diary.undo()
    return "ok"


def say_now(diary, things):
    """Answers the row now."""
    return shown_ratio(diary.now())


def say_stands(diary, things):
    """Answers the row stands."""
    return shown_on_one_row(diary.stands())


def say_amiss(diary, things):
    """Answers the row amiss."""
    wishes = diary.amiss()
    return ", ".join([shown_wish(wish) for wish in wishes]) if len(wishes) > 0 else "-"


def say_left(diary, things):
    """Answers the row left."""
    answer, why = least_told(diary.stands(), things[0])
    return answer


DIARY_SAYS = {
    "at": say_at, "begin": say_begin, "end": say_end, "undo": say_undo, "now": say_now, "stands": say_stands,
    "amiss": say_amiss, "left": say_left,
}


def is_diary_row(word):
    """Tells whether rows of this word are of a diary."""
    return word in DIARY_SAYS


def say_of_diary(word, diary, things):
    """The answer to a row of a diary."""
    answer = DIARY_SAYS[word]
    return answer(diary, things)
