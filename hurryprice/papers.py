"""Papers: lists of tuples (arc, amount) that balance at each work of a net."""

from hurryprice.errors import NoPaper, Unbalanced
from hurryprice.names import is_ratio, is_tuple_of
from hurryprice.nets import is_number_below
from hurryprice.ratios import NOUGHT, is_less, minus, plus, sum_of

ARC_WORDS = ("start", "end", "wait", "hold")


def is_arc(net, thing):
    """Tells whether a thing is an arc of a net."""
    if not is_tuple_of(thing, 2):
        return False
    works, waits, holds = net[0], net[1], net[2]
    many = {"start": len(works), "end": len(works), "wait": len(waits), "hold": len(holds)}
    word, number = thing
    return isinstance(word, str) and word in many and is_number_below(number, many[word])


def is_carried(net, thing):
    """Tells whether a thing is a tuple (arc, amount) as papers have them."""
    if not is_tuple_of(thing, 2):
        return False
    arc, amount = thing
    return is_arc(net, arc) and is_ratio(amount) and is_less(NOUGHT, amount)


def look_at_form(net, thing):
    """Refuses with NoPaper what is no list of tuples (arc, amount), arcs unlike."""
    if not isinstance(thing, list):
        raise NoPaper(None)
    ahead = {}
    for at, carried in enumerate(thing):
        if not is_carried(net, carried) or carried[0] in ahead:
            raise NoPaper(at)
        ahead[carried[0]] = True


def flows_of(net, paper):
    """Two lists, of each work: its amount; what goes off at its end. Of what has a paper's form, balanced or not."""
    waits, holds = net[1], net[2]
    amounts = [NOUGHT for work in net[0]]
    offs = [NOUGHT for work in net[0]]
    for (word, number), amount in paper:
        if word == "start":
            amounts[number] = plus(amounts[number], amount)
        elif word == "end":
            offs[number] = plus(offs[number], amount)
        elif word == "wait":
            one, other, lag = waits[number]
            offs[one] = plus(offs[one], amount)
            amounts[other] = plus(amounts[other], amount)
        else:
            add_hold(holds[number], amount, amounts, offs)
    return (amounts, offs)


def add_hold(hold, amount, amounts, offs):
    """Adds a hold's amount where it goes in or off."""
    kind, work, moment = hold
    if kind == "from":
        amounts[work] = plus(amounts[work], amount)
    elif kind == "till":
        amounts[work] = minus(amounts[work], amount)
    else:
        offs[work] = plus(offs[work], amount)


def amounts_of(net, paper):
    """The list of the works' amounts; refuses what is no paper."""
    look_at_form(net, paper)
    amounts, offs = flows_of(net, paper)
    for work, amount in enumerate(amounts):
        if is_less(amount, NOUGHT) or amount != offs[work]:
            raise Unbalanced(work)
    return amounts


def rate_of(paper):
    """The amounts of all ends together."""
    return sum_of([amount for (word, number), amount in paper if word == "end"])


def place_of_arc(arc):
    """By what arcs are put in order: starts, ends, waits, holds, by numbers."""
    return (ARC_WORDS.index(arc[0]), arc[1])


def in_order(amounts):
    """The paper, in the order of its arcs, of a dict from arcs to amounts; those of (0, 1) are left out."""
    return [(arc, amounts[arc]) for arc in sorted(amounts, key=place_of_arc) if amounts[arc] != NOUGHT]


def look_at_paper(net, thing):
    """Tells None of a paper of the net; refuses anything else with NoPaper or Unbalanced."""
    amounts_of(net, thing)
