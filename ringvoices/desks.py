"""Desks: live whole rows that keep claims."""

from ringvoices.claims import claim_line, claim_told, does_keep, is_claim, line_of, numbers_told
from ringvoices.deeds import is_deed, whole_behind
from ringvoices.errors import BadClaim, BadDeed, BadText, NoClaim, NothingToRedo, NothingToUndo, TooMany, Unkept
from ringvoices.rings import are_rings
from ringvoices.voices import check_whole, is_whole

MOST_ITEM = 1000000000000


def _are_too_great(whole):
    return any([abs(item) > MOST_ITEM for item in whole])


class Desk:
    """Rings, a whole row on them and claims that hold for it, with what was done."""

    def __init__(self, rings, whole):
        check_whole(rings, whole)
        self._now = (rings, whole, ())
        self._past = []
        self._undone = []

    def standing(self):
        """The tuple (rings, row, claims)."""
        return self._now

    def row(self):
        """The whole row."""
        return self._now[1]

    def claims(self):
        """The ascending tuple of the claims."""
        return self._now[2]

    def text(self):
        """The text of the desk, which read_desk reads."""
        rings, whole, claims = self._now
        lines = [line_of("rings", rings), line_of("row", whole)]
        return "\n".join(lines + [claim_line(claim) for claim in claims])

    def undoable(self):
        """How often undo can be called."""
        return len(self._past)

    def redoable(self):
        """How often redo can be called."""
        return len(self._undone)

    def is_same(self, thing):
        """Whether a thing is a desk with an equal standing."""
        return isinstance(thing, Desk) and thing.standing() == self._now

    def copied(self):
        """A new desk with the same standing, and nothing to undo or to redo."""
        return _desk_with(self._now)

    def do(self, deed):
        """Does a deed, if no item gets too great by it and all claims hold."""
        rings, whole, claims = self._now
        if not is_deed(rings, deed):
            raise BadDeed(deed)
        found = whole_behind(rings, whole, deed)
        if _are_too_great(found):
            raise TooMany(MOST_ITEM)
        for claim in claims:
            if not does_keep(rings, found, claim):
                raise Unkept(claim)
        self._go_on((rings, found, claims))

    def claim(self, thing):
        """Makes a claim that holds."""
        rings, whole, claims = self._now
        if not is_claim(rings, thing) or thing in claims:
            raise BadClaim(thing)
        if not does_keep(rings, whole, thing):
            raise Unkept(thing)
        self._go_on((rings, whole, tuple(sorted([*claims, thing]))))

    def release(self, thing):
        """Releases a claim of the desk."""
        rings, whole, claims = self._now
        # A thing that is equal to a claim may yet be none: True is equal to 1.
        if not is_claim(rings, thing) or thing not in claims:
            raise NoClaim(thing)
        self._go_on((rings, whole, tuple([claim for claim in claims if claim != thing])))

    def undo(self):
        """Takes back the last deed, claim or release that is not undone."""
        if self._past == []:
            raise NothingToUndo()
        self._undone.append(self._now)
        self._now = self._past.pop()

    def redo(self):
        """Takes back the last undo."""
        if self._undone == []:
            raise NothingToRedo()
        self._past.append(self._now)
        self._now = self._undone.pop()

    def _go_on(self, standing):
        self._past.append(self._now)
        self._undone = []
        self._now = standing


def _desk_with(standing):
    rings, whole, _ = standing
    desk = Desk(rings, whole)
    desk._now = standing
    return desk


def read_desk(text):
    """A new desk with the standing of a text."""
    if not isinstance(text, str):
        raise BadText(0)
    lines = text.split("\n")
    rings = numbers_told("rings", lines[0])
    if not are_rings(rings):
        raise BadText(1)
    whole = numbers_told("row", lines[1]) if len(lines) > 1 else None
    if not is_whole(rings, whole) or _are_too_great(whole):
        raise BadText(2)
    claims = []
    for at, line in enumerate(lines[2:], start=3):
        claim = claim_told(rings, line)
        # Claims are compared as tuples: those with one word have things of one kind behind it.
        if claim is None or claims != [] and claim <= claims[-1] or not does_keep(rings, whole, claim):
            raise BadText(at)
        claims.append(claim)
    return _desk_with((rings, whole, tuple(claims)))
