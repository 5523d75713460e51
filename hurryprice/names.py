"""Tells of any thing whether it is a whole number, a fraction, a name."""

LONGEST_NAME = 8


def is_whole(thing):
    """Tells whether a thing is a whole number."""
    # True and False are ints to Python, but no whole numbers here.
    return isinstance(thing, int) and not isinstance(thing, bool)


def is_tuple_of(thing, many):
    """Tells whether a thing is a tuple of so many things."""
    return isinstance(thing, tuple) and len(thing) == many


def is_word(thing, word):
    """Tells whether a thing is just this text."""
    return isinstance(thing, str) and thing == word


def common_part(one, other):
    """The greatest whole number that divides two whole numbers, 0 where both are 0."""
    one, other = abs(one), abs(other)
    while other != 0:
        one, other = other, one % other
    return one


def is_ratio(thing):
    """Tells whether a thing is a fraction in lowest terms, its bottom from 1 on."""
    if not is_tuple_of(thing, 2):
        return False
    top, bottom = thing
    if not is_whole(top) or not is_whole(bottom):
        return False
    return bottom >= 1 and common_part(top, bottom) == 1


def is_name(thing):
    """Tells whether a thing is a text of one to eight small letters."""
    if not isinstance(thing, str) or not 1 <= len(thing) <= LONGEST_NAME:
        return False
    # Written out, since islower and its like let signs by that are not from a to z.
    return all(["a" <= sign <= "z" for sign in thing])
