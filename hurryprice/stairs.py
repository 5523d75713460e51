"""The stair of least price against whole time of a straight net, and the least plan for one whole."""

from hurryprice.nets import look_at_straight
from hurryprice.network import Network, path_to, ring_of
from hurryprice.plans import price_of
from hurryprice.ratios import is_less
from hurryprice.shapes import price_at, shape_of
from hurryprice.stairlook import plan_at


def climbed(net, network, whole):
    """The lists of bends and papers, from the last bend down to the first one that isn't above a whole.

    What the network carries has the rate (0, 1). As much as can goes along the longest ways to the sink, so the rate
    rises and the whole falls; a new bend is where the longest way gets shorter.
    """
    bends, papers = [], []
    reached = None
    while True:
        far, came, moved = network.farthest(network.root)
        units = network.units_of(far[network.sink])
        if units != reached:
            moments = network.moments(came)
            plan = network.plan(net, moments)
            bends.append((moments[network.sink], price_of(net, plan), plan))
            papers.append(network.paper())
            reached = units
        if not is_less(whole, bends[-1][0]):
            return (bends, papers)
        path = path_to(came, network.root, network.sink)
        # There is a room on it: by ways without any the first whole is the farthest.
        network.push(path, network.room_on(path))


def first_of(network):
    """A tuple (first whole, bar) of a network as yet without rooms; (None, paper) where a ring bars every whole."""
    far, came, moved = network.farthest(network.root)
    if moved is not None:
        return (None, network.paper_along(ring_of(came, moved)))
    bar = network.paper_along(path_to(came, network.root, network.sink))
    return (network.moments(came)[network.sink], bar)


def stair_of(net):
    """("stair", bends, papers, bar), or ("none", paper); NotStraight of a net that isn't straight."""
    look_at_straight(net)
    network = Network(net)
    first, bar = first_of(network)
    if first is None:
        return ("none", bar)
    network.fill_works(net)
    bends, papers = climbed(net, network, first)
    return ("stair", bends[::-1], papers[::-1], bar)


def least_plan(net, whole):
    """("plan", price, plan, paper) for a whole, or ("bar", paper); NotStraight of a net that isn't straight."""
    look_at_straight(net)
    network = Network(net)
    first, bar = first_of(network)
    if first is None or is_less(whole, first):
        return ("bar", bar)
    network.fill_works(net)
    bends, papers = climbed(net, network, whole)
    # As much of a stair as is needed: the whole lies behind its first bend, and ahead of its second.
    part = ("stair", bends[::-1], papers[::-1], bar)
    return ("plan", price_at(shape_of(part), whole), plan_at(net, part, whole), papers[-1])
