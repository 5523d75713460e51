"""Papers of nets that are put beside or behind one another, turned about, scaled."""

from hurryprice.errors import NoJoin
from hurryprice.papers import in_order, rate_of
from hurryprice.ratios import minus, parted, product, smaller

TURNED_WORDS = {"start": "end", "end": "start", "wait": "wait", "hold": "hold"}


def shifted(net, paper):
    """A dict from arcs to amounts of a paper, of a net that stands behind another one's works, waits and holds."""
    many = {"start": len(net[0]), "end": len(net[0]), "wait": len(net[1]), "hold": len(net[2])}
    return {(word, number + many[word]): amount for (word, number), amount in paper}


def paper_beside(one_net, one, other_net, other):
    """The paper of two nets beside one another that has the arcs of both."""
    amounts = dict(one)
    amounts.update(shifted(one_net, other))
    return in_order(amounts)


def shared_out(given, taken):
    """Amounts from those who give to those who take, as tuples (giver, taker, amount); both are such lists.

    Each of the two is a list of tuples (number, amount), of one sum.
    """
    found = []
    givers, takers = list(given), list(taken)
    while len(givers) > 0 and len(takers) > 0:
        giver, more = givers.pop(0)
        taker, need = takers.pop(0)
        amount = smaller(more, need)
        found.append((giver, taker, amount))
        if amount != more:
            givers.insert(0, (giver, minus(more, amount)))
        if amount != need:
            takers.insert(0, (taker, minus(need, amount)))
    return found


def amounts_at(paper, word):
    """The tuples (number, amount) of a paper's arcs of one word."""
    return [(arc[1], amount) for arc, amount in paper if arc[0] == word]


def paper_behind(one_net, one, other_net, other, wait):
    """The paper of the other net behind the one by a wait, of two papers of one rate; NoJoin of unlike rates."""
    if rate_of(one) != rate_of(other):
        raise NoJoin("papers behind one another have one rate")
    amounts = {arc: amount for arc, amount in one if arc[0] != "end"}
    amounts.update(shifted(one_net, [(arc, amount) for arc, amount in other if arc[0] != "start"]))
    first, many = len(one_net[1]) + len(other_net[1]), len(other_net[0])
    for tail, head, amount in shared_out(amounts_at(one, "end"), amounts_at(other, "start")):
        amounts[("wait", first + tail * many + head)] = amount
    return in_order(amounts)


def paper_turned(paper):
    """The paper of the turned net: starts and ends exchanged."""
    return in_order({(TURNED_WORDS[word], number): amount for (word, number), amount in paper})


def paper_scaled(paper, span, cost):
    """The paper of the scaled net: each amount cost times as much, parted by span."""
    times = parted(cost, span)
    return in_order({arc: product(times, amount) for arc, amount in paper})
