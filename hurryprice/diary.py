"""A diary of works as they went, and the net as it stands."""

from hurryprice.errors import NoDeed, NoDiary
from hurryprice.joins import copied_works
from hurryprice.names import is_ratio
from hurryprice.nets import is_number_below
from hurryprice.offers import corners_above, cut_at, price_of_time
from hurryprice.plans import hold_slack, wait_slack
from hurryprice.ratios import NOUGHT, is_less, minus

MOST_HOLDS_KEPT = 20


def price_taken(offer, took):
    """The price of what an ended work took, which is no less than the quick time."""
    kind, corners = offer
    if is_less(corners[0][0], took):
        return corners[0][1]
    if kind == "straight":
        return price_of_time(offer, took)
    # The first corner that isn't above it has the greatest time of such.
    return corners[len(corners_above(corners, took))][1]


class Diary:
    """What was done of a net without groups, and when."""

    def __init__(self, net):
        works, waits, holds, groups = net
        if len(groups) > 0 or len(holds) > MOST_HOLDS_KEPT:
            raise NoDiary("a diary is of a net without groups, of at most twenty holds")
        self.net = (copied_works(works), list(waits), list(holds), [])
        self.moment = NOUGHT
        self.began = {}
        self.ended = {}
        self.done = []

    def note(self, deed):
        """Keeps a deed with the now ahead of it."""
        self.done.append((deed, self.moment))

    def look_at_work(self, work):
        """Refuses what is no work's number."""
        if not is_number_below(work, len(self.net[0])):
            raise NoDeed("this is no work's number")

    def go_to(self, moment):
        """Goes on to a moment; NoDeed of what is no fraction, or less than now."""
        if not is_ratio(moment) or is_less(moment, self.moment):
            raise NoDeed("the diary goes on to a moment from now on alone")
        self.note(("to", moment))
        self.moment = moment

    def begin(self, work):
        """A work to come begins, now; NoDeed of anything else."""
        self.look_at_work(work)
        if work in self.began:
            raise NoDeed("this work has begun")
        self.note(("begin", work))
        self.began[work] = self.moment

    def end(self, work):
        """A begun work ends, now; NoDeed of anything else, and of one that can't be so quick."""
        self.look_at_work(work)
        if self.place_of(work) != "begun":
            raise NoDeed("this work isn't begun")
        corners = self.net[0][work][1][1]
        if is_less(self.taken(work), corners[-1][0]):
            raise NoDeed("this work can't have ended so soon")
        self.note(("end", work))
        self.ended[work] = self.moment

    def undo(self):
        """Undoes the last deed that isn't undone yet; NoDeed where there is none."""
        if len(self.done) == 0:
            raise NoDeed("there is nothing to be undone")
        (word, thing), ahead = self.done.pop()
        if word == "begin":
            self.began.pop(thing)
        elif word == "end":
            self.ended.pop(thing)
        self.moment = ahead

    def now(self):
        """The moment that is now."""
        return self.moment

    def place_of(self, work):
        """Whether a work is to come, begun or ended."""
        if work in self.ended:
            return "ended"
        return "begun" if work in self.began else "to come"

    def taken(self, work):
        """What an ended work took, or a begun one till now."""
        return minus(self.ended.get(work, self.moment), self.began[work])

    def offer_left(self, work):
        """What is left of a work's offer."""
        kind, corners = self.net[0][work][1]
        place = self.place_of(work)
        if place == "to come":
            return (kind, list(corners))
        if place == "begun":
            return cut_at((kind, corners), self.taken(work))
        took = self.taken(work)
        return (kind, [(took, price_taken((kind, corners), took))])

    def is_past_wait(self, wait):
        """Tells whether a wait is settled: its one has ended, its other is begun or ended."""
        return wait[0] in self.ended and wait[1] in self.began

    def is_past_hold(self, hold):
        """Tells whether a hold is settled: its work has begun, or for a hold by has ended."""
        return hold[1] in (self.ended if hold[0] == "by" else self.began)

    def holds_now(self):
        """The holds that say what is already so: when works began, and that none to come starts below now."""
        holds = []
        for work in range(len(self.net[0])):
            if work in self.began:
                holds.append(("from", work, self.began[work]))
                holds.append(("till", work, self.began[work]))
            else:
                holds.append(("from", work, self.moment))
        return holds

    def stands(self):
        """The net as it stands."""
        works = [(name, self.offer_left(work)) for work, (name, offer) in enumerate(self.net[0])]
        waits = [wait for wait in self.net[1] if not self.is_past_wait(wait)]
        holds = [hold for hold in self.net[2] if not self.is_past_hold(hold)]
        return (works, waits, holds + self.holds_now(), [])

    def steps_gone(self):
        """The works as tuples (start, time) as they went; of a work to come anything, of a begun one any time."""
        steps = []
        for work in range(len(self.net[0])):
            steps.append((self.began[work], self.taken(work)) if work in self.began else (NOUGHT, NOUGHT))
        return steps

    def amiss(self):
        """The waits, then the holds, that are settled and weren't kept."""
        steps = self.steps_gone()
        told = []
        for at, wait in enumerate(self.net[1]):
            if self.is_past_wait(wait) and is_less(wait_slack(wait, steps), NOUGHT):
                told.append(("wait", at))
        for at, hold in enumerate(self.net[2]):
            if self.is_past_hold(hold) and is_less(hold_slack(hold, steps), NOUGHT):
                told.append(("hold", at))
        return told

    def deeds(self):
        """The deeds that aren't undone, in their order."""
        return [deed for deed, ahead in self.done]
