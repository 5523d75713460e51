"""Plans and papers written as texts, and read, by their form alone."""

from hurryprice.errors import NoText
from hurryprice.nettexts import ratio_in, shown_ratio, whole_in
from hurryprice.papers import ARC_WORDS
from hurryprice.ratios import NOUGHT, is_less

MOST_STEPS = 10
MOST_ARCS = 100
MOST_NUMBER = 99


def number_in(text):
    """The whole number from 0 to 99 that a text writes; None of another text."""
    number = whole_in(text)
    return number if number is not None and 0 <= number <= MOST_NUMBER else None


def shown_plan(plan):
    """The writing of a plan."""
    return ", ".join([f"{shown_ratio(start)} {shown_ratio(time)}" for start, time in plan])


def shown_paper(paper):
    """The writing of a paper, - of one of nothing."""
    if len(paper) == 0:
        return "-"
    return ", ".join([f"{word} {number} {shown_ratio(amount)}" for (word, number), amount in paper])


def step_in(text):
    """The tuple (start, time) that a text writes; None of another text."""
    left, blank, right = text.partition(" ")
    start, time = ratio_in(left), ratio_in(right)
    if start is None or time is None or is_less(time, NOUGHT):
        return None
    return (start, time)


def carried_in(text):
    """The tuple (arc, amount) that a text writes; None of another text."""
    words = text.split(" ")
    if len(words) != 3 or words[0] not in ARC_WORDS:
        return None
    number, amount = number_in(words[1]), ratio_in(words[2])
    if number is None or amount is None or not is_less(NOUGHT, amount):
        return None
    return ((words[0], number), amount)


def plan_in(text):
    """The plan that a text writes; None of another text."""
    plan = [step_in(part) for part in text.split(", ")]
    return None if None in plan or len(plan) > MOST_STEPS else plan


def paper_in(text):
    """The paper that a text writes; None of another text."""
    if text == "-":
        return []
    paper = [carried_in(part) for part in text.split(", ")]
    return None if None in paper or len(paper) > MOST_ARCS else paper


def read_plan(text):
    """The plan by its form that a text writes; NoText of anything else."""
    plan = plan_in(text) if isinstance(text, str) else None
    if plan is None:
        raise NoText(0)
    return plan


def read_paper(text):
    """The paper by its form that a text writes; NoText of anything else."""
    paper = paper_in(text) if isinstance(text, str) else None
    if paper is None:
        raise NoText(0)
    return paper
