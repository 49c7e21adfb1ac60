"""Papers: by which points, and from which hands' logs, a word of a row was chosen."""

from ridingvotes.basics import has_parts, is_from
from ridingvotes.counts import is_most
from ridingvotes.lots import common, is_lot, is_within, joined, without
from ridingvotes.slips import is_ballot


def paper(world, row):
    """The paper of the row's chosen word, None where none is chosen."""
    for place, ballot, word, lot in world.took():
        # The least ballot of a row comes first.
        if place == row and is_most(lot, world.points()):
            return ("chosen", row, ballot, word, parts_of(world, row, ballot, word))
    return None


def parts_of(world, row, ballot, word):
    """The tuple of (name, lot): the points that took the word while with the hand, not with one ahead."""
    parts = []
    ahead = ()
    for name in range(world.hands()):
        lot = without(world.logged(name, row, ballot, word), ahead)
        if lot != ():
            parts.append((name, lot))
            ahead = joined(ahead, lot)
    return tuple(parts)


def shows_chosen(world, thing):
    """Whether the thing, of whatever kind, is a paper of a word that is chosen."""
    if not has_parts(thing, 5) or thing[0] != "chosen":
        return False
    _, row, ballot, word, parts = thing
    if not is_from(row, 0) or not is_ballot(ballot) or not is_from(word, 0):
        return False
    if not isinstance(parts, tuple) or not all([is_part(world, part) for part in parts]):
        return False
    if not all([one[0] < other[0] for one, other in zip(parts, parts[1:])]):
        return False
    if not all([is_within(lot, world.logged(name, row, ballot, word)) for name, lot in parts]):
        return False
    return is_most_apart([lot for _, lot in parts], world.points())


def is_part(world, thing):
    """Whether the thing is (name, lot), a hand of the world and a lot that isn't ()."""
    if not has_parts(thing, 2) or not is_from(thing[0], 0) or thing[0] >= world.hands():
        return False
    return is_lot(thing[1]) and thing[1] != ()


def is_most_apart(lots, points):
    """Whether the lots have no point twice, and all together more than half of so many points."""
    ahead = ()
    for lot in lots:
        if common(ahead, lot) != ():
            return False
        ahead = joined(ahead, lot)
    return is_most(ahead, points)
