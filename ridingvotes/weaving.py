"""Weavings: all that can come of a small world whose hands have plans, in whatever order.

A state is (world, done), done how many deeds of each plan are done.
"""

from ridingvotes.errors import Missing, VoteError


def weavings(world, plans, *, most=300):
    """All states that can come, counted, and what is known and chosen where nothing is left to come."""
    first = (world.copy(), (0,) * len(plans))
    seen = set()
    seen.add(key_of(first))
    waiting = [first]
    ends = {}
    while waiting:
        if len(seen) > most:
            return ("open", most)
        state = waiting.pop()
        behind = states_behind(state, plans)
        if behind == []:
            ends[end_of(state)] = True
        for found in behind:
            key = key_of(found)
            if key not in seen:
                seen.add(key)
                waiting.append(found)
    return ("all", len(seen), tuple(sorted(ends)))


def shows_weavings(world, plans, thing, *, most=300):
    """Whether the thing, of whatever kind, is just what weavings tells."""
    return is_same(thing, weavings(world, plans, most=most))


def is_same(thing, told):
    """Whether the thing, of whatever kind, is the same as what is told: texts, numbers, and tuples of these."""
    if isinstance(told, tuple):
        if not isinstance(thing, tuple) or len(thing) != len(told):
            return False
        return all([is_same(one, other) for one, other in zip(thing, told)])
    # A truth equals a number, too.
    return thing == told and not isinstance(thing, bool)


def key_of(state):
    """A text that is the same just for states that are one."""
    world, done = state
    # Numbers and texts all through, so that their text tells them apart; as tuples they may be too deep for a key.
    return repr((world.books_and_minds(), sorted(world.road()), done))


def end_of(state):
    """(knows, chosen) of a state in which nothing is left."""
    world, _ = state
    return (tuple([hand.known for hand in world.members]), world.chosen())


def states_behind(state, plans):
    """The states that one deed or one letter leads to, perhaps the same one several times."""
    world, done = state
    found = []
    for name, plan in enumerate(plans):
        if done[name] < len(plan):
            word, *parts = plan[done[name]]
            behind = done[:name] + (done[name] + 1,) + done[name + 1:]
            found.append((world_behind(world, (word, name, *parts)), behind))
    road = world.road()
    for at, letter in enumerate(road):
        # The same letter once more leads to the same state.
        if letter not in road[:at]:
            found.append((world_behind(world, ("come", at)), done))
    return found


def world_behind(world, deed):
    """A world like this one behind the deed, which changes nothing where it is refused."""
    behind = world.copy()
    try:
        behind.do(deed)
    except (VoteError, Missing):
        pass
    return behind
