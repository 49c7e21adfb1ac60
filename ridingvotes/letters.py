"""Letters: tuples of a word, the hands from and to which they go, and what they bear."""

from ridingvotes.basics import is_from
from ridingvotes.holdings import is_holding
from ridingvotes.lots import is_lot
from ridingvotes.slips import is_ballot

# What a letter of each word bears behind the two hands.
PARTS = {
    "ask": ("ballot", "number"),
    "told": ("ballot", "holding", "number", "words"),
    "offer": ("ballot", "number", "number"),
    "took": ("ballot", "number", "lot"),
    "late": ("ballot", "ballot"),
    "known": ("number", "words"),
    "parcel": ("number", "holding", "number", "words"),
    "receipt": ("number", "number"),
}


def is_letter(thing):
    """Whether the thing, of whatever kind, is a letter."""
    if not isinstance(thing, tuple) or len(thing) < 3 or not is_kind(thing[0]):
        return False
    kinds, parts = PARTS[thing[0]], thing[3:]
    if len(kinds) != len(parts) or not all([is_part(kind, part) for kind, part in zip(kinds, parts)]):
        return False
    return is_from(thing[1], 0) and is_from(thing[2], 0) and thing[1] != thing[2]


def is_kind(thing):
    """Whether the thing is the word of a kind of letters."""
    return isinstance(thing, str) and thing in PARTS


def is_part(kind, thing):
    """Whether the thing is of this kind of parts."""
    if kind == "ballot":
        return is_ballot(thing)
    if kind == "holding":
        return is_holding(thing)
    if kind == "lot":
        return is_lot(thing)
    if kind == "words":
        return isinstance(thing, tuple) and all([is_from(word, 0) for word in thing])
    return is_from(thing, 0)


def rows_told(letter):
    """How many rows the sender of the letter knows by what it bears, 0 where it bears nothing of that."""
    if letter[0] in ("ask", "receipt"):
        return letter[-1]
    if letter[0] in ("told", "known", "parcel"):
        return letter[-2] + len(letter[-1])
    return 0
