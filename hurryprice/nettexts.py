"""Fractions and nets written as texts, and read."""

from hurryprice.errors import NoText
from hurryprice.names import common_part
from hurryprice.nets import HOLD_KINDS, MOST_GROUPS, MOST_HOLDS, MOST_WAITS, MOST_WORKS
from hurryprice.nets import is_group, is_hold, is_wait, is_work

FIGURES = "0123456789"
MOST_FIGURES = 60
CHUNK = 1000000000000000000
CHUNK_FIGURES = 18


def shown_whole(number):
    """A whole number in figures, however many, with a - ahead where it is below 0."""
    # In chunks: Python's own writing refuses numbers of some thousand figures.
    chunks = []
    left = abs(number)
    while left >= CHUNK:
        left, chunk = divmod(left, CHUNK)
        chunks.append(str(chunk).zfill(CHUNK_FIGURES))
    chunks.append(str(left))
    figures = "".join(chunks[::-1])
    return f"-{figures}" if number < 0 else figures


def shown_ratio(one):
    """A fraction as its top, where its bottom is 1, else as top, /, bottom."""
    top, bottom = one
    return shown_whole(top) if bottom == 1 else f"{shown_whole(top)}/{shown_whole(bottom)}"


def whole_in(text):
    """The whole number of at most sixty figures that a text writes; None of another text."""
    figures = text[1:] if text.startswith("-") else text
    if not 1 <= len(figures) <= MOST_FIGURES or not all([sign in FIGURES for sign in figures]):
        return None
    number = int(text)
    return number if shown_whole(number) == text else None


def ratio_in(text):
    """The fraction that a text writes; None of another text."""
    left, slash, right = text.partition("/")
    top = whole_in(left)
    bottom = whole_in(right) if slash == "/" else 1
    if top is None or bottom is None:
        return None
    # A bottom of 1 isn't written.
    if slash == "/" and (bottom < 2 or common_part(top, bottom) != 1):
        return None
    return (top, bottom)


def read_ratio(text):
    """The fraction that a text writes; NoText of anything else."""
    one = ratio_in(text) if isinstance(text, str) else None
    if one is None:
        raise NoText(0)
    return one


def shown_corners(corners):
    """Corners as TIME:PRICE, a blank between."""
    return " ".join([f"{shown_ratio(time)}:{shown_ratio(price)}" for time, price in corners])


def shown_net(net):
    """The writing of a net."""
    works, waits, holds, groups = net
    names = [name for name, offer in works]
    rows = [f"work {name} {kind} {shown_corners(corners)}" for name, (kind, corners) in works]
    for one, other, lag in waits:
        rows.append(f"wait {names[one]} {names[other]} {shown_ratio(lag)}")
    for kind, work, moment in holds:
        rows.append(f"{kind} {names[work]} {shown_ratio(moment)}")
    for group in groups:
        members = " ".join([names[work] for work in group])
        rows.append(f"group {members}")
    return "\n".join(rows)


def corner_in(text):
    """The tuple of the two fractions that a text writes as TIME:PRICE; None of another text."""
    left, colon, right = text.partition(":")
    time, price = ratio_in(left), ratio_in(right)
    return None if time is None or price is None else (time, price)


def number_of(works, name):
    """The number of the work of this name; None where there is none."""
    names = [work[0] for work in works]
    return names.index(name) if name in names else None


def told_by(works, words):
    """A tuple (part, thing): the number of a net's part, and what a row's words tell, good or not; None of no row."""
    word = words[0]
    if word == "work" and len(words) > 2:
        return (0, (words[1], (words[2], [corner_in(text) for text in words[3:]])))
    if word == "wait" and len(words) == 4:
        return (1, (number_of(works, words[1]), number_of(works, words[2]), ratio_in(words[3])))
    if word in HOLD_KINDS and len(words) == 3:
        return (2, (word, number_of(works, words[1]), ratio_in(words[2])))
    if word == "group":
        return (3, [number_of(works, name) for name in words[1:]])
    return None


def can_stand(net, part, thing):
    """Tells whether a thing can stand behind the others in a part of a net."""
    works, waits, holds, groups = net
    if any([len(later) > 0 for later in net[part + 1:]]):
        return False
    if part == 0:
        return len(works) < MOST_WORKS and is_work(thing, works)
    if part == 1:
        return len(waits) < MOST_WAITS and is_wait(thing, len(works))
    if part == 2:
        return len(holds) < MOST_HOLDS and is_hold(thing, len(works))
    return len(groups) < MOST_GROUPS and is_group(thing, works, groups)


def read_net(text):
    """The net that a text writes; NoText of anything else."""
    if not isinstance(text, str):
        raise NoText(0)
    net = ([], [], [], [])
    for at, row in enumerate(text.split("\n")):
        told = told_by(net[0], row.split(" "))
        if told is None or not can_stand(net, told[0], told[1]):
            raise NoText(at)
        net[told[0]].append(told[1])
    return net
