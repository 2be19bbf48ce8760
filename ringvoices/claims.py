"""Claims of whole rows: which things are claims, whether they hold, their lines in texts. Rings are right here."""

from ringvoices.floors import Floor
from ringvoices.kinds import is_integer
from ringvoices.rings import is_place, seat_of
from ringvoices.sums import is_zero, voices_of
from ringvoices.voices import row_of, voice

DIGITS = "0123456789"
# No right integer of a text is longer: neither lengths, nor items and their sums, nor those of places.
MOST_DIGITS = 20


def is_claim(rings, thing):
    """Whether a thing is a claim."""
    if not isinstance(thing, tuple) or len(thing) != 2:
        return thing == ("undoable",)
    word, part = thing
    if word == "sum":
        return is_integer(part)
    return word in ("empty", "silent") and is_place(rings, part)


def does_keep(rings, whole, claim):
    """Whether a claim holds for a whole row."""
    word = claim[0]
    if word == "empty":
        return whole[seat_of(rings, claim[1])] == 0
    if word == "silent":
        return is_zero(voice(rings, row_of(rings, whole), claim[1]))
    if word == "sum":
        return sum(whole) == claim[1]
    return not any([is_zero(number) for number in voices_of(Floor(rings), row_of(rings, whole))])


def claim_line(claim):
    """The line of a text that tells a claim."""
    word = claim[0]
    if word == "undoable":
        return word
    return line_of(word, (claim[1],) if word == "sum" else claim[1])


def line_of(word, numbers):
    """A word with integers behind it, with single blanks."""
    return " ".join([word] + [str(number) for number in numbers])


def claim_told(rings, line):
    """The claim that a line of a text tells, None if it tells none."""
    word = line.split(" ")[0]
    numbers = numbers_told(word, line)
    if numbers is None:
        return None
    if word == "undoable":
        thing = (word,) + numbers
    else:
        thing = (word,) + (numbers if word == "sum" else (numbers,))
    return thing if is_claim(rings, thing) else None


def numbers_told(word, line):
    """The integers behind a word that a line begins with, None if there is something else."""
    words = line.split(" ")
    if words[0] != word or not all([_is_written(text) for text in words[1:]]):
        return None
    return tuple([int(text) for text in words[1:]])


def _is_written(text):
    """Whether a text is an integer as Python writes it, and not too long."""
    digits = text.removeprefix("-")
    if digits == "" or len(digits) > MOST_DIGITS or not all([digit in DIGITS for digit in digits]):
        return False
    return str(int(text)) == text
