"""Which pieces of a stair stay when the net is changed, and stairs mended by a change."""

from hurryprice.changes import changed, paper_over, plan_over
from hurryprice.claims import claims_of
from hurryprice.nets import look_at_straight
from hurryprice.plans import first_broken, price_of
from hurryprice.ratios import NOUGHT, is_less, minus, plus, product
from hurryprice.stairs import stair_of


def more_claimed(net, change, made, paper):
    """By how much more a paper claims, carried into the changed net; None where it isn't there."""
    carried = paper_over(net, change, paper)
    if carried is None:
        return None
    # Its ends are all there with their amounts, so its rate is as it was.
    return minus(claims_of(made, carried)[0], claims_of(net, paper)[0])


def keeps_bend(net, change, made, bend, more):
    """Tells whether a bend's plan, carried, is within its whole in the changed net, for its price and the more."""
    whole, price, plan = bend
    carried = plan_over(net, change, plan)
    return first_broken(made, carried, whole) is None and price_of(made, carried) == plus(price, more)


def pieces_kept(net, change, made, stair):
    """The tuples (k, more) of the pieces that stay."""
    word, bends, papers, bar = stair
    pieces = []
    for at, paper in enumerate(papers):
        more = more_claimed(net, change, made, paper)
        if more is not None and all([keeps_bend(net, change, made, bend, more) for bend in bends[at:at + 2]]):
            pieces.append((at, more))
    return pieces


def is_quick(net, change, made, stair):
    """Tells whether the paper that bars what is sooner, or everything, carried, still does."""
    carried = paper_over(net, change, stair[-1])
    if carried is None:
        return False
    price, rate, length = claims_of(made, carried)
    if stair[0] == "none":
        return is_less(NOUGHT, length)
    return not is_less(length, product(rate, stair[1][0][0]))


def stays(net, stair, change):
    """A tuple (pieces, quick); NoChange, then NotStraight of the net or the changed one."""
    made = changed(net, change)
    look_at_straight(net)
    look_at_straight(made)
    pieces = [] if stair[0] == "none" else pieces_kept(net, change, made, stair)
    return (pieces, is_quick(net, change, made, stair))


def mended(net, stair, change):
    """A tuple (changed net, stair, pieces, quick); NoChange, then NotStraight of the net or the changed one."""
    pieces, quick = stays(net, stair, change)
    made = changed(net, change)
    return (made, stair_of(made), pieces, quick)
