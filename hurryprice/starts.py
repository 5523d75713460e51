"""The earliest and the latest starts for told times, or a paper that shows that there are none."""

from hurryprice.offers import price_of_time
from hurryprice.ratios import NOUGHT, is_less, minus, plus

ONE = (1, 1)


def timed(net, times):
    """The net with its times told: straight offers of one corner, no groups."""
    works, waits, holds = net[0], net[1], net[2]
    fixed = []
    for (name, offer), time in zip(works, times):
        fixed.append((name, ("straight", [(time, price_of_time(offer, time))])))
    return (fixed, list(waits), list(holds), [])


def hold_way(hold, times, arc):
    """The way of a hold's arc, as ways_of tells them."""
    kind, work, moment = hold
    root = len(times)
    if kind == "from":
        return (root, work, moment, arc)
    if kind == "till":
        return (work, root, minus(NOUGHT, moment), arc)
    return (work, root, minus(times[work], moment), arc)


def ways_of(net, times, whole):
    """Each wish as a tuple (tail, head, length, arc): the head starts no sooner than the tail's start and the length.

    The moment (0, 1) stands among the works as one more, the root, so that a paper is a way round; without a whole
    there are no ends.
    """
    root = len(times)
    ways = [(root, work, NOUGHT, ("start", work)) for work in range(root)]
    if whole is not None:
        for work, time in enumerate(times):
            ways.append((work, root, minus(time, whole), ("end", work)))
    for at, (one, other, lag) in enumerate(net[1]):
        ways.append((one, other, plus(times[one], lag), ("wait", at)))
    for at, hold in enumerate(net[2]):
        ways.append(hold_way(hold, times, ("hold", at)))
    return ways


def stretch(ways, far, came):
    """Goes once through all ways and makes far what they make farther; tells what was made farther last, or None."""
    moved = None
    for way in ways:
        tail, head, length, arc = way
        if far[tail] is not None:
            reached = plus(far[tail], length)
            if far[head] is None or is_less(far[head], reached):
                far[head] = reached
                came[head] = way
                moved = head
    return moved


def ring_paper(came, moved):
    """The paper of the ring from which something was made farther still, by the ways each was last reached."""
    place = moved
    # As many steps back as there are places lead into the ring, wherever outside of it they begin.
    for step in range(len(came)):
        place = came[place][0]
    paper = []
    at = place
    while len(paper) == 0 or at != place:
        tail, head, length, arc = came[at]
        paper.append((arc, ONE))
        at = tail
    return paper


def farthest(ways, many):
    """A tuple (far, None), how far from the root each of so many works is; or (None, paper) of a ring above nought."""
    far = [None for work in range(many)] + [NOUGHT]
    came = [None for place in far]
    moved = None
    # A way without a ring passes each place but once: what is still made farther in the last turn comes from a ring.
    for turn in range(many + 1):
        moved = stretch(ways, far, came)
        if moved is None:
            return (far[:many], None)
    return (None, ring_paper(came, moved))


def earliest(net, times):
    """("starts", the least starts), or ("ring", paper)."""
    starts, ring = farthest(ways_of(net, times, None), len(times))
    if ring is not None:
        return ("ring", ring)
    return ("starts", starts)


def latest(net, times, whole):
    """("starts", the greatest starts within the whole), or ("bar", paper)."""
    word, told = earliest(net, times)
    if word == "ring":
        return ("bar", told)
    # Gone backwards, how far a work is from the root is how long ahead of the moment (0, 1) it must start.
    back = [(head, tail, length, arc) for tail, head, length, arc in ways_of(net, times, whole)]
    leads, bar = farthest(back, len(times))
    if bar is not None:
        return ("bar", bar)
    return ("starts", [minus(NOUGHT, lead) for lead in leads])
