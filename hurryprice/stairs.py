"""The stair of least price against whole time of a straight net, and the least plan for one whole."""

from hurryprice.nets import look_at_straight
from hurryprice.network import Network, path_to, ring_of
from hurryprice.plans import price_of
from hurryprice.shapes import piece_at, price_at, shape_of
from hurryprice.stairlook import plan_at


def climbed(net, network, first):
    """The lists of bends and papers, from the last bend to the first one, whose whole is told.

    What the network carries has the rate (0, 1). As much as can goes along the longest ways to the sink, so the rate
    rises and the whole falls; a new bend is where the longest way gets shorter.
    """
    bends, papers = [], []
    whole = None
    while whole != first:
        far, came, moved = network.farthest(network.root)
        reached = network.short_of(far[network.sink])
        if reached != whole:
            plan = network.plan(net, far)
            bends.append((reached, price_of(net, plan), plan))
            papers.append(network.paper())
            whole = reached
        if whole != first:
            path = path_to(came, network.root, network.sink)
            # There is a room on it: by ways without any the first whole is the farthest.
            network.push(path, network.room_on(path))
    return (bends, papers)


def stair_of(net):
    """("stair", bends, papers, bar), or ("none", paper); NotStraight of a net that isn't straight."""
    look_at_straight(net)
    network = Network(net)
    far, came, moved = network.farthest(network.root)
    if moved is not None:
        return ("none", network.paper_along(ring_of(came, moved)))
    bar = network.paper_along(path_to(came, network.root, network.sink))
    network.fill_works(net)
    bends, papers = climbed(net, network, network.short_of(far[network.sink]))
    return ("stair", bends[::-1], papers[::-1], bar)


def least_plan(net, whole):
    """("plan", price, plan, paper) for a whole, or ("bar", paper); NotStraight of a net that isn't straight."""
    stair = stair_of(net)
    if stair[0] == "none":
        return ("bar", stair[1])
    shape = shape_of(stair)
    at = piece_at(shape, whole)
    if at is None:
        return ("bar", stair[3])
    return ("plan", price_at(shape, whole), plan_at(net, stair, whole), stair[2][at])
