"""Trees of reasons: splits by the corners of works by steps down to papers, and what no plan costs less than."""

from hurryprice.choices import chosen_net, is_chosen
from hurryprice.claims import claims_if_paper
from hurryprice.errors import NoTree
from hurryprice.names import is_tuple_of, is_word
from hurryprice.ratios import NOUGHT, is_less, minus, product, smaller

MOST_TUPLES = 500


def is_split(net, choice, thing):
    """Tells whether a thing is a split that can stand under a choice, whatever its trees are."""
    if not is_tuple_of(thing, 3) or not is_word(thing[0], "split"):
        return False
    word, work, trees = thing
    if not is_chosen(net, work, 0) or work in choice:
        return False
    return isinstance(trees, list) and len(trees) == len(net[0][work][1][1])


def bars_for(claims, whole, below):
    """Tells whether a paper of these claims bars the whole; with below, whether it bars each lesser one."""
    price, rate, length = claims
    reach = product(rate, whole)
    if is_less(reach, length):
        return True
    return below and length == reach and is_less(NOUGHT, rate)


def leaf_claims(net, whole, below, thing):
    """What the paper of a line or a bar of the net as chosen claims; None of what can't stand there as such a leaf."""
    if not is_tuple_of(thing, 2):
        return None
    word, paper = thing
    claims = claims_if_paper(net, paper)
    if claims is None or is_word(word, "line"):
        return claims
    return claims if is_word(word, "bar") and bars_for(claims, whole, below) else None


def choice_with(net, choice, work, number):
    """The choice with a work more, and all of its group, at the corner of this number."""
    more = dict(choice)
    more[work] = number
    for group in net[3]:
        if work in group:
            more.update({other: number for other in group})
    return more


def walked(net, whole, below, thing):
    """The leaves of a tree as tuples (choice, leaf, claims), in the order of the walk; NoTree of what is no tree."""
    leaves = []
    many = 0
    left = [({}, [], thing)]
    while len(left) > 0:
        choice, way, tree = left.pop()
        many += 1
        if many > MOST_TUPLES:
            raise NoTree(way)
        if is_split(net, choice, tree):
            word, work, trees = tree
            # The last one first, since what is put down last is taken up next.
            for at in range(len(trees) - 1, -1, -1):
                left.append((choice_with(net, choice, work, at), way + [at], trees[at]))
        else:
            claims = leaf_claims(chosen_net(net, choice), whole, below, tree)
            if claims is None:
                raise NoTree(way)
            leaves.append((choice, tree, claims))
    return leaves


def tree_claim(net, whole, below, thing):
    """("least", fraction) of a tree for a whole and below, or ("none",); NoTree of what is no tree."""
    least = None
    for choice, leaf, (price, rate, length) in walked(net, whole, below, thing):
        if leaf[0] == "line":
            claim = minus(price, product(rate, whole))
            least = claim if least is None else smaller(least, claim)
    return ("none",) if least is None else ("least", least)


def leaves_of(net, whole, below, thing):
    """The leaves of a tree as tuples (choice, leaf), in the order of the walk; NoTree of what is no tree."""
    return [(choice, (leaf[0], list(leaf[1]))) for choice, leaf, claims in walked(net, whole, below, thing)]
