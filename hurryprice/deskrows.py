"""Rows of the desk, read into their words and things."""

from hurryprice.names import is_name
from hurryprice.nettexts import corner_in, ratio_in
from hurryprice.papertexts import number_in, paper_in, plan_in
from hurryprice.ratios import NOUGHT, is_less

# What follows each row's first word; the last thing of some takes all that is left of the row.
ROWS = {
    "net": ("name", "text"), "shown": ("name",), "drop": ("name",), "names": (),
    "keeps": ("name", "amount", "plan"), "claims": ("name", "amount", "paper"),
    "stair": ("name",), "flight": ("name",), "least": ("name", "amount"), "why": ("name",),
    "purse": ("name", "amount"), "days": ("name", "amount"), "change": ("name", "change"),
    "diary": ("name",), "at": ("name", "ratio"), "begin": ("name", "name"), "end": ("name", "name"),
    "undo": ("name",), "now": ("name",), "stands": ("name",), "amiss": ("name",), "left": ("name", "amount"),
}
LONG_KINDS = ("text", "plan", "paper", "change")
CHANGES = {
    "offer": ("number", "name", "corner"), "work": ("name", "name", "corner"), "gone": ("number",),
    "wait": ("number", "number", "ratio"), "lag": ("number", "ratio"), "unwait": ("number",),
    "hold": ("name", "number", "ratio"), "moment": ("number", "ratio"), "unhold": ("number",),
    "group": ("number", "number"), "ungroup": ("number",),
}
# Of these the last thing may stand several times.
OPEN_CHANGES = ("offer", "work", "group")


def thing_in(kind, word):
    """The thing of a kind that one word writes; None of a word that writes none."""
    if kind == "name":
        return word if is_name(word) else None
    if kind == "number":
        return number_in(word)
    if kind == "corner":
        return corner_in(word)
    one = ratio_in(word)
    if kind == "amount" and one is not None and is_less(one, NOUGHT):
        return None
    return one


def made_change(word, things):
    """The change, as changes are told, of its word and the things that follow it."""
    if word == "offer":
        return (word, things[0], (things[1], things[2:]))
    if word == "work":
        return (word, (things[0], (things[1], things[2:])))
    if word == "group":
        return (word, things)
    if word == "wait" or word == "hold":
        return (word, tuple(things))
    return (word,) + tuple(things)


def change_in(text):
    """The change that a text writes, whether or not it is one of some net; None of another text."""
    word, *parts = text.split(" ")
    if word not in CHANGES:
        return None
    kinds = list(CHANGES[word])
    if word in OPEN_CHANGES:
        kinds = kinds + [kinds[-1] for part in parts[len(kinds):]]
    if len(kinds) != len(parts):
        return None
    things = [thing_in(kind, part) for kind, part in zip(kinds, parts)]
    return None if None in things else made_change(word, things)


def long_thing_in(kind, text):
    """The thing of a kind that takes all that is left of a row; None of a text that writes none."""
    if kind == "plan":
        return plan_in(text)
    if kind == "paper":
        return paper_in(text)
    if kind == "change":
        return change_in(text)
    # One sign at least.
    return text if text != "" else None


def things_in(row):
    """The list of a row's first word and the things that follow it; None of what is no row."""
    word, blank, rest = row.partition(" ")
    if word not in ROWS or "\n" in row:
        return None
    things = [word]
    # Where words lack the rest is empty, and an empty text writes nothing.
    for kind in ROWS[word]:
        if kind in LONG_KINDS:
            blank = ""
            things.append(long_thing_in(kind, rest))
        else:
            text, blank, rest = rest.partition(" ")
            things.append(thing_in(kind, text))
    return None if blank != "" or None in things else things
