"""The refusals: each stands straight under HurryError, none under another one."""


class HurryError(ValueError):
    """Any refusal."""


class NoNumber(HurryError):
    """What was handed in makes no fraction."""


class NoTime(HurryError):
    """A time that an offer hasn't."""


class NoNet(HurryError):
    """What is no net: the part that is none, and the number of the first thing in it that can't stand."""

    def __init__(self, part, number):
        self.part = part
        self.number = number


class NoPaper(HurryError):
    """What is no paper: the number of the first thing in it that can't stand, None where it is no list."""

    def __init__(self, number):
        self.number = number


class Unbalanced(HurryError):
    """A paper where not as much goes off at a work's end as goes in: the first such work."""

    def __init__(self, work):
        self.work = work


class NotStraight(HurryError):
    """A net that has an offer by steps, where a straight one is asked for."""


class NoJoin(HurryError):
    """Nets or papers that can't be joined or turned."""


class NoTree(HurryError):
    """What is no tree: the way to the first thing in it that can't stand."""

    def __init__(self, way):
        # A list of its own, so that what is done later to the one handed in doesn't change it.
        self.way = list(way)


class TooMany(HurryError):
    """A net with more choices than are gone through."""


class NotSteps(HurryError):
    """A net that has a straight offer, where offers by steps alone are asked for."""


class NoChange(HurryError):
    """What is no change of a net."""


class NoText(HurryError):
    """What is no writing: the first row that can't stand."""

    def __init__(self, row):
        self.row = row


class NoDiary(HurryError):
    """A net of which no diary can be kept, or a name without a diary."""


class NoDeed(HurryError):
    """A deed that can't be done, or undone."""


class NoRow(HurryError):
    """What is no row of the desk's."""


class NoName(HurryError):
    """A name by which no net stands."""
