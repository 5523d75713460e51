"""What the tests share: fractions from Python's own, things of every kind, and asking that watches promise 0.2."""

import copy
import random
import unittest
from fractions import Fraction


def part(one):
    """The program's fraction of Python's own one, or of a text such as 3/4, or of a whole number."""
    one = Fraction(one)
    return (one.numerator, one.denominator)


def frac(one):
    """Python's own fraction of the program's one."""
    return Fraction(one[0], one[1])


def straight(*corners):
    return ("straight", [(part(time), part(price)) for time, price in corners])


def steps(*corners):
    return ("steps", [(part(time), part(price)) for time, price in corners])


def chance(seed):
    """A source that is the same in each run."""
    return random.Random(seed)


class Plain:
    """An object of no kind that the program knows."""


def things_of_every_kind():
    """New things of every kind, none of which is a fraction, a name, an offer, a net, a plan or a paper but for []."""
    return [
        None, True, False, 0, 1, -1, 7, 10 ** 59, "", "A", "a b", "0", b"", b"a", (), (1,), (1, 2, 3), ((), ()),
        (True, 1), (1, True), (0, 0), (0, 2), (2, 4), (1, -1), (1, 0), ("a", "b"), ([], []), [], [1], [1, 2],
        [[1, 2]], [()], [None], {}, {1: 2}, {"a": []}, set(), {1}, frozenset([1]), range(2), Plain(), Plain, len,
        ValueError, ValueError("no"), bytearray(b"a"), iter([1, 2]), Ellipsis, NotImplemented,
    ]


def kept_in(thing):
    """All lists and dicts within a thing, each as often as it stands there."""
    found = [thing] if isinstance(thing, (list, dict)) else []
    if isinstance(thing, dict):
        thing = list(thing.values())
    if isinstance(thing, (list, tuple)):
        for one in thing:
            found.extend(kept_in(one))
    return found


class Asking(unittest.TestCase):
    """A test case that can ask and see to it that nothing is changed, shared or kept by what it asks."""

    def asked(self, tell, *things):
        """What is told of the things; fails where 0.2 isn't kept."""
        handed = copy.deepcopy(things)
        told = tell(*handed)
        self.assertEqual(handed, things, "what is handed in is changed")
        self.watch_lists(told, handed)
        answer = copy.deepcopy(told)
        for one in kept_in(told) + kept_in(handed):
            one.clear()
        again = tell(*copy.deepcopy(things))
        self.assertEqual(repr(again), repr(answer), "what is asked twice alike is told unlike")
        return answer

    def watch_lists(self, told, handed):
        """Fails where two places of what is told share a list, or one shares a list that was handed in."""
        numbers = [id(one) for one in kept_in(told)]
        self.assertEqual(len(numbers), len(set(numbers)), "two places share one list")
        self.assertFalse(set(numbers) & {id(one) for one in kept_in(handed)}, "a list handed in is told")

    def refused(self, error, tell, *things):
        """The error by which the things are refused, just of this class; nothing handed in is changed."""
        handed = list(things)
        shown = repr(handed)
        with self.assertRaises(error) as caught:
            tell(*handed)
        self.assertIs(type(caught.exception), error)
        self.assertEqual(repr(handed), shown, "what is refused is changed")
        return caught.exception
