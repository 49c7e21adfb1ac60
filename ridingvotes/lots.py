"""Lots of points. All is done run by run, never point by point: a run may have very many points."""

from ridingvotes.basics import is_run, knitted, overlaps
from ridingvotes.errors import TooMany


def is_lot(thing):
    """Whether the thing, of whatever kind, is a lot."""
    if not isinstance(thing, tuple) or not all([is_run(run) for run in thing]):
        return False
    return all([ahead[1] + 1 < behind[0] for ahead, behind in zip(thing, thing[1:])])


def lot_of(points):
    """The lot of the points, which are in any order, alike ones perhaps."""
    return knitted([(point, point) for point in sorted(set(points))])


def size(lot):
    """How many points the lot has."""
    return sum([last - first + 1 for first, last in lot])


def joined(one, other):
    """The lot of the points of either."""
    if one == () or other == ():
        return one + other
    return knitted(sorted(one + without(other, one)))


def common(one, other):
    """The lot of the points of both."""
    return tuple([row[:2] for row in overlaps(one, other)])


def without(one, other):
    """The lot of the points of the one and not the other."""
    if one == ():
        return ()
    return common(one, gaps(other, one[-1][1]))


def gaps(lot, end):
    """The points that the lot does not have, at least all of those up to end."""
    found = []
    begin = 0
    for first, last in lot:
        if begin < first:
            found.append((begin, first - 1))
        begin = last + 1
    if begin <= end:
        found.append((begin, end))
    return tuple(found)


def is_within(one, other):
    """Whether all points of the one are the other's."""
    return without(one, other) == ()


def picked(lot, many, *, skip=0):
    """The lot of its points from number skip on, so many or as many as there are."""
    found = []
    for first, last in lot:
        begin = min(first + skip, last + 1)
        end = min(last, begin + many - 1)
        skip -= begin - first
        many -= end - begin + 1
        if begin <= end:
            found.append((begin, end))
    return tuple(found)


def points_in(lot, *, most=200):
    """The tuple of its points, refused with TooMany where there are more than most."""
    many = size(lot)
    if many > most:
        raise TooMany(many)
    return tuple([point for first, last in lot for point in range(first, last + 1)])
