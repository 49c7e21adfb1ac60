"""Ballots, and slips: what a point has promised and which words it took."""

from ridingvotes.basics import has_parts, is_from, is_pair

NONE = (0, 0)
FRESH = ((0, 0), ())


def is_ballot(thing):
    """Whether the thing, of whatever kind, is a ballot."""
    return is_pair(thing) and thing[0] >= 1


def is_slip(thing):
    """Whether the thing, of whatever kind, is a slip."""
    if not has_parts(thing, 2):
        return False
    promised, taken = thing
    if not is_promise(promised) or not isinstance(taken, tuple):
        return False
    if not all([is_taking(part, promised) for part in taken]):
        return False
    return all([ahead[0] < behind[0] for ahead, behind in zip(taken, taken[1:])])


def is_promise(thing):
    """Whether the thing is a ballot or NONE."""
    return is_pair(thing) and (is_ballot(thing) or thing == NONE)


def is_taking(thing, promised):
    """Whether the thing is a (row, ballot, word) that a point may have taken that has promised so much."""
    if not has_parts(thing, 3):
        return False
    row, ballot, word = thing
    return is_from(row, 0) and is_ballot(ballot) and ballot <= promised and is_from(word, 0)


def above(slip, floor):
    """The slip without what it took of rows below floor."""
    promised, taken = slip
    if taken == () or taken[0][0] >= floor:
        return slip
    return (promised, tuple([part for part in taken if part[0] >= floor]))


def is_later(one, other, *, floor=0):
    """Whether the slip other is no earlier than one, by the rows from floor on."""
    if other[0] < one[0]:
        return False
    behind = {row: (ballot, word) for row, ballot, word in other[1]}
    return all([keeps((ballot, word), behind.get(row)) for row, ballot, word in one[1] if row >= floor])


def keeps(ahead, behind):
    """Whether of one row behind, a (ballot, word) or None, is no earlier than ahead, a (ballot, word)."""
    return behind is not None and (behind[0] > ahead[0] or behind == ahead)


def later(one, other):
    """The slip other where that is no earlier than one, else one."""
    if is_later(one, other):
        return other
    return one
