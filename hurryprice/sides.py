"""Two shapes side by side: at which wholes which of them is cheaper."""

from hurryprice.plans import between, share_between
from hurryprice.ratios import NOUGHT, is_less, minus, plus
from hurryprice.shapes import merged_wholes, price_at

HALF = (1, 2)
ONE = (1, 1)


def word_at(one, other, whole):
    """The word that holds at a whole."""
    mine, theirs = price_at(one, whole), price_at(other, whole)
    if mine is None and theirs is None:
        return "none"
    if mine is None:
        return "other"
    if theirs is None:
        return "one"
    if mine == theirs:
        return "alike"
    return "less" if is_less(mine, theirs) else "more"


def crossing_between(one, other, sooner, later):
    """The whole strictly between two, with no bend between them, where both prices are alike; None where there is none.

    Of prices that are alike at one of the two, or all the way, there is none.
    """
    words = [word_at(one, other, sooner), word_at(one, other, later)]
    if words != ["less", "more"] and words != ["more", "less"]:
        return None
    gaps = [minus(price_at(one, whole), price_at(other, whole)) for whole in (sooner, later)]
    return between(sooner, later, share_between(gaps[0], gaps[1], NOUGHT))


def turning_wholes(one, other):
    """All wholes, rising, at which the word may be another one than ahead or behind."""
    bent = merged_wholes(one, other)
    wholes = bent[:1]
    for sooner, later in zip(bent, bent[1:]):
        crossing = crossing_between(one, other, sooner, later)
        if crossing is not None:
            wholes.append(crossing)
        wholes.append(later)
    return wholes


def side_by_side(one, other):
    """Two shapes side by side, as tuples (whole, there, behind) where the word becomes another one."""
    wholes = turning_wholes(one, other)
    # Behind the last bend of both nothing changes any more, so any whole there will do.
    inner = [between(sooner, later, HALF) for sooner, later in zip(wholes, wholes[1:])] + [plus(wholes[-1], ONE)]
    rows = []
    for whole, further in zip(wholes, inner):
        there, behind = word_at(one, other, whole), word_at(one, other, further)
        if len(rows) == 0 or there != rows[-1][2] or behind != rows[-1][2]:
            rows.append((whole, there, behind))
    return rows
