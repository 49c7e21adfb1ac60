"""Weavings: all that can come of a small world whose hands have plans, in whatever order."""

from ridingvotes.looms import Loom


def weavings(world, plans, *, most=300):
    """All states that can come, counted, and what is known and chosen where nothing is left to come."""
    loom = Loom(world.points(), plans)
    first = loom.first_state(world)
    seen = set()
    seen.add(first)
    waiting = [first]
    ends = {}
    while waiting:
        found = []
        for state in waiting:
            if len(seen) > most:
                return ("open", most)
            behind = loom.states_behind(state)
            if behind == []:
                ends[loom.end_of(state)] = True
            for other in behind:
                if other not in seen:
                    seen.add(other)
                    found.append(other)
        waiting = found
    return ("all", len(seen), tuple(sorted(ends)))


def shows_weavings(world, plans, thing, *, most=300):
    """Whether the thing, of whatever kind, is just what weavings tells."""
    return is_same(thing, weavings(world, plans, most=most))


def is_same(thing, told):
    """Whether the thing, of whatever kind, is the same as what is told: texts, numbers, and tuples of these."""
    if isinstance(told, tuple):
        if not isinstance(thing, tuple) or len(thing) != len(told):
            return False
        return all([is_same(one, other) for one, other in zip(thing, told)])
    # A truth equals a number, too.
    return thing == told and not isinstance(thing, bool)
