"""Trees and stairs written as texts, and read, by their form alone."""

from hurryprice.errors import NoText
from hurryprice.nettexts import ratio_in, shown_ratio
from hurryprice.papertexts import number_in, paper_in, plan_in, shown_paper, shown_plan

MOST_SPLITS = 10


def shown_tree(tree):
    """The writing of a tree."""
    if tree[0] != "split":
        return f"{tree[0]} {shown_paper(tree[1])}"
    word, work, trees = tree
    within = " | ".join([shown_tree(one) for one in trees])
    return f"split {work} [{within}]"


def leaf_ahead(text):
    """A tuple (leaf, rest): the line or bar that a text begins with, and what follows; NoText where there is none."""
    ends = [text.find(mark) for mark in (" |", "]") if mark in text]
    end = min(ends, default=len(text))
    word, blank, shown = text[:end].partition(" ")
    paper = paper_in(shown)
    if word not in ("line", "bar") or paper is None:
        raise NoText(0)
    return ((word, paper), text[end:])


def split_ahead(text, deep):
    """A tuple (split, rest), likewise, of a split that stands within so many others."""
    head, bracket, rest = text.partition("[")
    words = head.split(" ")
    work = number_in(words[1])
    # Without a bracket the rest is empty, and begins no tree.
    if deep == MOST_SPLITS or len(words) != 3 or words[2] != "" or work is None:
        raise NoText(0)
    trees = []
    if rest.startswith("]"):
        return (("split", work, trees), rest[1:])
    while True:
        tree, rest = tree_ahead(rest, deep + 1)
        trees.append(tree)
        if rest.startswith("]"):
            return (("split", work, trees), rest[1:])
        if not rest.startswith(" | "):
            raise NoText(0)
        rest = rest[3:]


def tree_ahead(text, deep):
    """A tuple (tree, rest), likewise, of a tree that stands within so many splits."""
    return split_ahead(text, deep) if text.startswith("split ") else leaf_ahead(text)


def read_tree(text):
    """The tree by its form that a text writes; NoText of anything else."""
    if not isinstance(text, str):
        raise NoText(0)
    tree, rest = tree_ahead(text, 0)
    if rest != "":
        raise NoText(0)
    return tree


def shown_stair(stair):
    """The writing of a stair."""
    if stair[0] == "none":
        return f"none {shown_paper(stair[1])}"
    word, bends, papers, bar = stair
    rows = []
    for (whole, price, plan), paper in zip(bends, papers):
        rows.append(f"bend {shown_ratio(whole)} {shown_ratio(price)} {shown_plan(plan)}")
        rows.append(f"paper {shown_paper(paper)}")
    rows.append(f"bar {shown_paper(bar)}")
    return "\n".join(rows)


def bend_in(text):
    """The tuple (whole, price, plan) that a text writes; None of another text."""
    left, blank, rest = text.partition(" ")
    right, blank, shown = rest.partition(" ")
    whole, price, plan = ratio_in(left), ratio_in(right), plan_in(shown)
    return None if whole is None or price is None or plan is None else (whole, price, plan)


def read_none(rows):
    """The stair ("none", paper) of these rows, of which the first begins so."""
    word, blank, shown = rows[0].partition(" ")
    paper = paper_in(shown)
    if paper is None:
        raise NoText(0)
    if len(rows) > 1:
        raise NoText(1)
    return ("none", paper)


def row_told(bends, papers, row):
    """A tuple (word, thing) of a row that can stand behind these bends and papers; None of another row."""
    word, blank, text = row.partition(" ")
    if len(papers) < len(bends):
        thing = paper_in(text) if word == "paper" else None
    elif word == "bend":
        thing = bend_in(text)
    else:
        thing = paper_in(text) if word == "bar" and len(bends) > 0 else None
    return None if thing is None else (word, thing)


def read_stair(text):
    """The stair by its form that a text writes; NoText of anything else."""
    if not isinstance(text, str):
        raise NoText(0)
    rows = text.split("\n")
    if rows[0].startswith("none "):
        return read_none(rows)
    told = {"bend": [], "paper": [], "bar": []}
    for at, row in enumerate(rows):
        thing = row_told(told["bend"], told["paper"], row)
        if len(told["bar"]) > 0 or thing is None:
            raise NoText(at)
        told[thing[0]].append(thing[1])
    if len(told["bar"]) == 0:
        raise NoText(len(rows))
    return ("stair", told["bend"], told["paper"], told["bar"][0])
