"""What several tests share: things of every kind, and small lots and holdings told point by point."""

import itertools

FAR = 10 ** 12 - 1
LONG = 10 ** 11


def nested(levels, inner, wrap):
    """The inner thing, wrapped so many times."""
    for _ in range(levels):
        inner = wrap(inner)
    return inner


WRAPS = (
    lambda thing: (thing,),
    lambda thing: [thing],
    lambda thing: {0: thing},
    lambda thing: ((0, 0), thing),
    lambda thing: ((0, 1), thing),
    lambda thing: (0, 0, thing),
)

# Things just thirty deep, and others that may stand in three more tuples and still be no deeper.
DEEPEST = [nested(30, 0, wrap) for wrap in WRAPS[:3]] + [nested(29, (), wrap) for wrap in WRAPS]
DEEP = [nested(26, 0, wrap) for wrap in WRAPS[:3]] + [nested(25, (), wrap) for wrap in WRAPS]

# None of these is a lot, a ballot, a slip or a holding; () is left out, being both a lot and a holding.
ODD = [
    0, 1, 7, -1, FAR, True, False, None, "", "0", "(0, 1)", "ab", "a b c",
    [], [0], [0, 1], [(0, 1)], [[0, 1]], {}, {0: 1}, {0: 0, 1: 1}, {"a": (0, 1)},
    (None,), (None, None), (True,), (True, True), (False, False), ("",), ("", ""), ("a", "b"),
    (0,), (7,), (-1,), ((),), ((), ()), ((), (), ()), ([],), ([], []), ({},), ({}, {}), ((0,),), ((0, 1, 2),),
    (0, 1, 2), (0, 1, 2, 3), ((0, 1), 2), (0, (0, 1)), ({0: 0, 1: 1},), ("ab",), ("ab", "cd"),
] + DEEP


def lot_by_points(points):
    """The lot of the points, made one point at a time."""
    runs = []
    for point in sorted(set(points)):
        if runs and runs[-1][1] == point - 1:
            runs[-1][1] = point
        else:
            runs.append([point, point])
    return tuple((first, last) for first, last in runs)


def all_sets(many):
    """All sets of points below many."""
    return [{at for at in range(many) if number >> at & 1} for number in range(1 << many)]


def all_lots(many):
    """(lot, set of its points) for all lots of points below many."""
    return [(lot_by_points(points), points) for points in all_sets(many)]


def holding_by_points(held):
    """The holding of a dict from points to slips, made one point at a time."""
    runs = []
    for point in sorted(held):
        if runs and runs[-1][1] == point - 1 and runs[-1][2] == held[point]:
            runs[-1][1] = point
        else:
            runs.append([point, point, held[point]])
    return tuple((first, last, slip) for first, last, slip in runs)


def all_holdings(many, slips):
    """(holding, dict from points to slips) for all holdings of points below many with these slips."""
    found = []
    for chosen in itertools.product((None,) + tuple(slips), repeat=many):
        held = {point: slip for point, slip in enumerate(chosen) if slip is not None}
        found.append((holding_by_points(held), held))
    return found
