"""Counts by points: what askings gathered, whether it is more than half, and which words it binds to."""

from ridingvotes.basics import knitted, overlaps
from ridingvotes.holdings import cut, lot_held
from ridingvotes.lots import size
from ridingvotes.slips import later


def gathered(one, other):
    """The holding of the points of either, of a point of both with the later one of its slips."""
    if one == () or other == ():
        return one + other
    shared = overlaps(one, other)
    if shared == []:
        return knitted(sorted(one + other))
    both = [(first, last, later(one[at][2], other[place][2])) for first, last, at, place in shared]
    _, ones = cut(one, lot_held(other))
    _, others = cut(other, lot_held(one))
    return knitted(sorted([*both, *ones, *others]))


def is_most(lot, points):
    """Whether the lot has more than half of so many points."""
    return 2 * size(lot) > points


def must(holding):
    """The rising tuple of (row, word): of each row that any point took the word taken by the greatest ballot."""
    best = {}
    for run in holding:
        for row, ballot, word in run[2][1]:
            # The least word of several is the one whose negative is greatest.
            found = (ballot, -word)
            best[row] = max(best.get(row, found), found)
    return tuple([(row, -best[row][1]) for row in sorted(best)])
