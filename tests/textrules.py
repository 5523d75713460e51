"""What writes a fraction, a plan, a paper, a net, by patterns; texts with one sign more, less or another one."""

import math
import re

from hurryprice.errors import NoNet
from hurryprice.nets import look_at_net

WHOLE = r"(?:0|-?[1-9][0-9]{0,59})"
RATIO = rf"{WHOLE}(?:/[1-9][0-9]{{0,59}})?"
NUMBER = r"(?:0|[1-9][0-9]?)"
STEP = rf"{RATIO} (?!-){RATIO}"
ARC = rf"(?:start|end|wait|hold) {NUMBER} (?![-0]){RATIO}"
PAPER = rf"(?:-|{ARC}(?:, {ARC}){{0,99}})"
PLAN = rf"{STEP}(?:, {STEP}){{0,9}}"
NAME = "[a-z]{1,8}"


def are_lowest(text):
    """Tells whether all fractions in a text are in lowest terms, their bottoms above 1."""
    pairs = [(int(top), int(bottom)) for top, bottom in re.findall(r"(-?[0-9]+)/([0-9]+)", text)]
    return all(bottom > 1 and math.gcd(top, bottom) == 1 for top, bottom in pairs)


def writes(pattern, text):
    """Tells whether a text is just of the pattern, its fractions in lowest terms."""
    return re.fullmatch(pattern, text) is not None and are_lowest(text)


def ratio_of(text):
    top, slash, bottom = text.partition("/")
    return (int(top), int(bottom or 1))


def net_of(rows):
    """The net whose writing these rows are, None where they are none's."""
    works, waits, holds, groups = [], [], [], []
    names, parts = [], []
    for row in rows:
        word, *words = row.split(" ")
        if writes(rf"work {NAME} (?:straight|steps)(?: {RATIO}:{RATIO})+", row):
            corners = [tuple(ratio_of(one) for one in corner.split(":")) for corner in words[2:]]
            works.append((words[0], (words[1], corners)))
            names.append(words[0])
        elif writes(rf"wait {NAME} {NAME} {RATIO}", row) and {words[0], words[1]} <= set(names):
            waits.append((names.index(words[0]), names.index(words[1]), ratio_of(words[2])))
        elif writes(rf"(?:from|till|by) {NAME} {RATIO}", row) and words[0] in names:
            holds.append((word, names.index(words[0]), ratio_of(words[1])))
        elif writes(rf"group(?: {NAME})+", row) and set(words) <= set(names):
            groups.append([names.index(name) for name in words])
        else:
            return None
        parts.append({"work": 0, "wait": 1, "group": 3}.get(word, 2))
    try:
        look_at_net((works, waits, holds, groups))
    except NoNet:
        return None
    return (works, waits, holds, groups) if parts == sorted(parts) else None


def signs_changed(text, signs):
    """The text with one sign less, or one of these signs more or in the stead of another one, at each place."""
    found = []
    for at in range(len(text) + 1):
        if at < len(text):
            found.append(text[:at] + text[at + 1:])
        for sign in signs:
            found.append(text[:at] + sign + text[at:])
            found.append(text[:at] + sign + text[at + 1:])
    return [one for one in dict.fromkeys(found) if one != text]
