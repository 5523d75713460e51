"""A desk that is told rows of text, and answers each by a text."""

from hurryprice.changes import changed
from hurryprice.deskrows import things_in
from hurryprice.desksays import is_diary_row, is_net_row, least_told, say_of_diary, say_of_net
from hurryprice.diary import Diary
from hurryprice.errors import NoDiary, NoName, NoRow
from hurryprice.nettexts import read_net

# Rows without the name of a net that stands.
FREE_ROWS = ("net", "names")


def say_names(desk, things):
    """Answers the row names."""
    return " ".join(sorted(desk.nets)) if len(desk.nets) > 0 else "-"


def say_net(desk, things):
    """Answers the row net."""
    name, text = things
    net = read_net(text.replace("; ", "\n"))
    desk.forget(name)
    desk.nets[name] = net
    return "ok"


def say_change(desk, things):
    """Answers the row change."""
    name, change = things
    net = changed(desk.nets[name], change)
    desk.forget(name)
    desk.nets[name] = net
    return "ok"


def say_drop(desk, things):
    """Answers the row drop."""
    desk.forget(things[0])
    return "ok"


def say_least(desk, things):
    """Answers the row least."""
    name, whole = things
    answer, why = least_told(desk.nets[name], whole)
    desk.whys[name] = why
    return answer


def say_why(desk, things):
    """Answers the row why."""
    return desk.whys.get(things[0], "-")


def say_diary(desk, things):
    """Answers the row diary."""
    desk.diaries[things[0]] = Diary(desk.nets[things[0]])
    return "ok"


SAYS = {
    "names": say_names, "net": say_net, "change": say_change, "drop": say_drop, "least": say_least, "why": say_why,
    "diary": say_diary,
}


class Desk:
    """Nets by their names, with a diary of some, and with what shows the least that was last told of some."""

    def __init__(self):
        self.nets = {}
        self.diaries = {}
        self.whys = {}

    def forget(self, name):
        """Takes away the net of a name, its diary, and what why tells."""
        self.nets.pop(name, None)
        self.diaries.pop(name, None)
        self.whys.pop(name, None)

    def say(self, row):
        """The answer to a row; NoRow, NoName, NoDiary, then as the row's own rules tell."""
        things = things_in(row) if isinstance(row, str) else None
        if things is None:
            raise NoRow("this is no row of the desk's")
        word, *rest = things
        if word not in FREE_ROWS and rest[0] not in self.nets:
            raise NoName("no net stands by this name")
        if is_diary_row(word):
            if rest[0] not in self.diaries:
                raise NoDiary("there is no diary of this net")
            return say_of_diary(word, self.diaries[rest[0]], rest[1:])
        if is_net_row(word):
            return say_of_net(word, self.nets[rest[0]], rest[1:])
        answer = SAYS[word]
        return answer(self, rest)
