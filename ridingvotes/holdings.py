"""Holdings: which points are held, and the slip of each. All is done run by run, as with lots."""

from ridingvotes.basics import has_parts, is_run, knitted, overlaps
from ridingvotes.errors import Twice
from ridingvotes.lots import without
from ridingvotes.slips import above, is_slip


def is_holding(thing):
    """Whether the thing, of whatever kind, is a holding."""
    if not isinstance(thing, tuple) or not all([is_held_run(run) for run in thing]):
        return False
    return all([may_follow(ahead, behind) for ahead, behind in zip(thing, thing[1:])])


def is_held_run(thing):
    """Whether the thing is (first, last, slip)."""
    return has_parts(thing, 3) and is_run(thing[:2]) and is_slip(thing[2])


def may_follow(ahead, behind):
    """Whether the run behind may stand next to the one ahead in a holding."""
    if ahead[1] + 1 == behind[0]:
        return ahead[2] != behind[2]
    return ahead[1] < behind[0]


def lot_held(holding):
    """The lot of its points."""
    return knitted([run[:2] for run in holding])


def slip_at(holding, point):
    """The slip of the point, None where it isn't held."""
    for first, last, slip in holding:
        if first <= point <= last:
            return slip
    return None


def cut(holding, lot):
    """(part, rest): the holdings of its points that are of the lot, and of the others."""
    others = without(lot_held(holding), lot)
    return (held_of(holding, lot), held_of(holding, others))


def held_of(holding, lot):
    """The holding of those of its points that are of the lot."""
    return tuple([(first, last, holding[at][2]) for first, last, at, place in overlaps(holding, lot)])


def put_in(one, other):
    """The holding of both, refused with Twice where a point is in both."""
    shared = overlaps(one, other)
    if shared:
        raise Twice(shared[0][0])
    return knitted(sorted(one + other))


def at_floor(holding, floor):
    """The holding, each slip without what it took of rows below floor."""
    if floor == 0:
        return holding
    return knitted([(first, last, above(slip, floor)) for first, last, slip in holding])


def slips_of(holding):
    """The rising tuple of (slip, lot), each slip once: which points have it."""
    runs = {}
    for first, last, slip in holding:
        runs.setdefault(slip, []).append((first, last))
    # Runs of like slips never touch in a holding, so that each list is a lot as it is.
    return tuple([(slip, tuple(runs[slip])) for slip in sorted(runs)])
