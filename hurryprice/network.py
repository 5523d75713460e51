"""A straight net as places with ways between them, on which a paper's amounts go.

Each work has a place for its start and one for its end; the moment (0, 1) is the root, the whole the sink. A way is a
tuple (tail, head, length, room, arc): the head comes no sooner than the tail and the length; it carries any amount
where its room is None, else at most the room; its arc is that of a paper, None for the ways through a work. Amounts
that at every place go off as they come in, on ways as long as can be, are a paper that claims the most for its rate;
how far each place is from the root, by the ways that still have room, is a plan that costs just that.
"""

from hurryprice.names import common_part
from hurryprice.offers import rate_between
from hurryprice.ratios import NOUGHT, minus, plus, smaller

ONE = (1, 1)


def grain_of(net):
    """The least whole number of which all bottoms of a net's times, waits and moments are parts."""
    moments = [time for name, offer in net[0] for time, price in offer[1]]
    moments = moments + [wait[2] for wait in net[1]] + [hold[2] for hold in net[2]]
    grain = 1
    for top, bottom in moments:
        grain = grain // common_part(grain, bottom) * bottom
    return grain


class Network:
    """The places and ways of a straight net, at first without those that have a room, and what the ways carry."""

    def __init__(self, net):
        self.many = len(net[0])
        self.root = 2 * self.many
        self.sink = self.root + 1
        self.places = self.sink + 1
        self.grain = grain_of(net)
        self.ways = []
        self.spans = []
        self.carried = []
        self.add_ways_of_works(net)
        self.add_ways_of_waits(net)
        self.add_ways_of_holds(net)

    def long_of(self, one):
        """A fraction as a length: a whole number, since adding whole numbers is so much quicker.

        It is so many times greater as there are places, so that each step may count one less: of two ways as long
        the one of fewer steps is taken, and going round a ring of just nought makes nothing longer.
        """
        return one[0] * (self.grain // one[1]) * self.places

    def units_of(self, length):
        """How many units of the grain a length has from which fewer steps were taken off than there are places."""
        return -(-length // self.places)

    def add_way(self, tail, head, span, room, arc):
        """Adds a way that as yet carries nothing."""
        self.ways.append((tail, head, self.long_of(span), room, arc))
        self.spans.append(span)
        self.carried.append(NOUGHT)

    def add_ways_of_works(self, net):
        """Adds the ways to the starts, from the ends, and through the works by their quick times."""
        for work in range(self.many):
            self.add_way(self.root, work, NOUGHT, None, ("start", work))
        for work in range(self.many):
            self.add_way(self.many + work, self.sink, NOUGHT, None, ("end", work))
        for work, (name, offer) in enumerate(net[0]):
            self.add_way(work, self.many + work, offer[1][-1][0], None, None)

    def add_ways_of_waits(self, net):
        """Adds the ways from ends to starts."""
        for at, (one, other, lag) in enumerate(net[1]):
            self.add_way(self.many + one, other, lag, None, ("wait", at))

    def add_ways_of_holds(self, net):
        """Adds the ways from the root and back to it."""
        for at, (kind, work, moment) in enumerate(net[2]):
            if kind == "from":
                self.add_way(self.root, work, moment, None, ("hold", at))
            else:
                tail = work if kind == "till" else self.many + work
                self.add_way(tail, self.root, minus(NOUGHT, moment), None, ("hold", at))

    def steps_left(self):
        """The steps that can be gone, as tuples (tail, head, length, number of the way, whether forth or back)."""
        steps = []
        for number, (tail, head, length, room, arc) in enumerate(self.ways):
            if self.carried[number] != room:
                steps.append((tail, head, length - 1, number, True))
            if self.carried[number] != NOUGHT:
                steps.append((head, tail, -length - 1, number, False))
        return steps

    def farthest(self, source):
        """A tuple (far, came, moved): how far each place is from the source, None where no way leads there.

        came has the steps by which each was reached, moved a place that a ring above nought still makes farther, or
        None.
        """
        steps = self.steps_left()
        far = [None for place in range(self.places)]
        came = [None for place in range(self.places)]
        far[source] = 0
        moved = None
        for turn in range(self.places):
            moved = stretch(steps, far, came)
            if moved is None:
                break
        return (far, came, moved)

    def room_on(self, path):
        """The most that all steps of a path can carry, None where that is any amount."""
        most = None
        for tail, head, length, number, forth in path:
            room = self.carried[number]
            if forth:
                room = self.ways[number][3]
                if room is not None:
                    room = minus(room, self.carried[number])
            if room is not None:
                most = room if most is None else smaller(most, room)
        return most

    def push(self, path, amount):
        """Lets an amount go on a path."""
        for tail, head, length, number, forth in path:
            carried = self.carried[number]
            self.carried[number] = plus(carried, amount) if forth else minus(carried, amount)

    def fill(self, tail, head, span, room):
        """Adds a way with a room, and lets go round through it what makes all longer."""
        left = room
        length = self.long_of(span)
        while left != NOUGHT:
            far, came, moved = self.farthest(head)
            if far[tail] is None or far[tail] + length <= 0:
                break
            path = path_to(came, head, tail)
            most = self.room_on(path)
            amount = left if most is None else smaller(left, most)
            self.push(path, amount)
            left = minus(left, amount)
        self.add_way(tail, head, span, room, None)
        self.carried[-1] = minus(room, left)

    def fill_works(self, net):
        """Adds the ways through the works by their longer times, each with the room up to the next rate."""
        for work, (name, offer) in enumerate(net[0]):
            rate = NOUGHT
            for longer, quicker in zip(offer[1], offer[1][1:]):
                steeper = rate_between(longer, quicker)
                self.fill(work, self.many + work, longer[0], minus(steeper, rate))
                rate = steeper

    def paper(self):
        """The paper of what the ways carry."""
        told = [(way[4], carried) for way, carried in zip(self.ways, self.carried)]
        return [(arc, carried) for arc, carried in told if arc is not None and carried != NOUGHT]

    def paper_along(self, path):
        """The paper that carries one along a path of ways without a room."""
        arcs = [self.ways[number][4] for tail, head, length, number, forth in path]
        return [(arc, ONE) for arc in arcs if arc is not None]

    def moments(self, came):
        """How far each place is from the root, as fractions, by the steps by which it was reached.

        Summed up step by step: of the lengths, with the bottoms of the whole net, it takes long to make fractions.
        """
        told = {self.root: NOUGHT}
        for place in range(self.places):
            path = []
            at = place
            while at not in told:
                path.append(came[at])
                at = came[at][0]
            for tail, head, length, number, forth in reversed(path):
                span = self.spans[number]
                told[head] = plus(told[tail], span) if forth else minus(told[tail], span)
        return told

    def plan(self, net, told):
        """The plan whose starts, and ends where they are needed, are at these moments."""
        plan = []
        for work, (name, offer) in enumerate(net[0]):
            room = minus(told[self.many + work], told[work])
            plan.append((told[work], smaller(offer[1][0][0], room)))
        return plan


def stretch(steps, far, came):
    """Goes once through all steps and makes far what they make farther; tells what was made farther last, or None."""
    moved = None
    for step in steps:
        tail, head, length = step[0], step[1], step[2]
        if far[tail] is not None and (far[head] is None or far[head] < far[tail] + length):
            far[head] = far[tail] + length
            came[head] = step
            moved = head
    return moved


def path_to(came, source, target):
    """The steps, the last one first, by which the target was reached from the source; once round where both are one."""
    path = [came[target]]
    while path[-1][0] != source:
        path.append(came[path[-1][0]])
    return path


def ring_of(came, moved):
    """The steps of the ring that made a place farther still."""
    place = moved
    # As many steps back as there are places lead into the ring, wherever outside of it they begin.
    for step in range(len(came)):
        place = came[place][0]
    return path_to(came, place, place)
