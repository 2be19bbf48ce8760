"""Deeds: which things are deeds, and what becomes of a whole row by one. Rings are right here."""

from ringvoices.kinds import is_integer
from ringvoices.mixing import mirrored, mixed, moved
from ringvoices.rings import is_place, seat_of
from ringvoices.voices import is_whole, row_of, whole_of


def is_deed(rings, thing):
    """Whether a thing is a deed."""
    if not isinstance(thing, tuple) or len(thing) not in (2, 3):
        return thing == ("mirror",)
    word, part = thing[:2]
    if len(thing) == 3:
        return word == "set" and is_place(rings, part) and is_integer(thing[2])
    if word == "move":
        return is_place(rings, part)
    return word in ("add", "mix") and is_whole(rings, part)


def whole_behind(rings, whole, deed):
    """The whole row that a deed makes of a whole row."""
    word = deed[0]
    if word == "add":
        return tuple([one + other for one, other in zip(whole, deed[1])])
    if word == "set":
        at = seat_of(rings, deed[1])
        return whole[:at] + (deed[2],) + whole[at + 1:]
    row = row_of(rings, whole)
    if word == "mix":
        found = mixed(rings, row, row_of(rings, deed[1]))
    elif word == "move":
        found = moved(rings, row, deed[1])
    else:
        found = mirrored(rings, row)
    return whole_of(rings, found)
