"""The best plan within a whole of a net with works by steps, and a tree that shows that none costs less."""

from hurryprice.choices import chosen_net
from hurryprice.counting import all_choices, tree_over
from hurryprice.ratios import is_less
from hurryprice.stairs import least_plan


def leaf_of(told):
    """The leaf that shows what least_plan told."""
    return ("bar", told[1]) if told[0] == "bar" else ("line", told[3])


def best_of(net, whole):
    """("plan", price, plan, tree), or ("none", tree); TooMany of a net with more than sixty-four choices."""
    best = None
    leaves = []
    for choice in all_choices(net):
        told = least_plan(chosen_net(net, choice), whole)
        leaves.append(leaf_of(told))
        if told[0] == "plan" and (best is None or is_less(told[1], best[1])):
            best = told
    tree = tree_over(net, leaves)
    return ("none", tree) if best is None else ("plan", best[1], best[2], tree)
