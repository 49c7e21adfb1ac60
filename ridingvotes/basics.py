"""What the other files share: kinds of things, and rows that begin with a run.

A row of runs is (first, last, ..): its first point, its last one, and what all of these points have.
"""


def is_from(thing, least):
    """Whether the thing is a whole number, none below least."""
    # A truth passes for an int in Python, but is no number here.
    return isinstance(thing, int) and not isinstance(thing, bool) and thing >= least


def has_parts(thing, many):
    """Whether the thing is a tuple of so many parts."""
    return isinstance(thing, tuple) and len(thing) == many


def is_pair(thing):
    """Whether the thing is a tuple of two whole numbers from 0."""
    return has_parts(thing, 2) and is_from(thing[0], 0) and is_from(thing[1], 0)


def is_run(thing):
    """Whether the thing is (first, last), the points from first to last."""
    return is_pair(thing) and thing[0] <= thing[1]


def overlaps(one, other):
    """For all that rows of one and of the other share: (first, last, place in one, place in the other)."""
    found = []
    at = place = 0
    while at < len(one) and place < len(other):
        first = max(one[at][0], other[place][0])
        last = min(one[at][1], other[place][1])
        if first <= last:
            found.append((first, last, at, place))
        if one[at][1] < other[place][1]:
            at += 1
        else:
            place += 1
    return found


def knitted(rows):
    """The tuple of the rows, which stand behind one another: those that touch and are alike are one."""
    found = []
    for row in rows:
        if found and found[-1][1] + 1 == row[0] and found[-1][2:] == row[2:]:
            found[-1] = found[-1][:1] + row[1:]
        else:
            found.append(row)
    return tuple(found)
