"""Who can choose: which hands have more than half of all points between them."""


def can_choose(world, hands):
    """Whether the points with the hands, and in parcels between two of them, are more than half."""
    return have_most(world, shares_of(world), hands)


def least_choosers(world):
    """The rising tuple of all rising tuples of hands that can choose, none of them without one of its hands."""
    shares = shares_of(world)
    return least_of({hands: have_most(world, shares, hands) for hands in all_sets(world)})


def blockers(world):
    """The rising tuple of those without which the others can't choose, none of them without one of its hands."""
    shares = shares_of(world)
    return least_of({hands: not have_most(world, shares, others_of(world, hands)) for hands in all_sets(world)})


def shares_of(world):
    """A dict from (hand,), or (from, to) of parcels, to how many points are there."""
    shares = {}
    for first, last, place, _, _ in world.spots():
        between = place[:2]
        shares[between] = shares.get(between, 0) + last - first + 1
    return shares


def have_most(world, shares, hands):
    """Whether more than half of all points are with the hands or between two of them."""
    many = sum([shares[between] for between in shares if all([name in hands for name in between])])
    return 2 * many > world.points()


def all_sets(world):
    """All rising tuples of hands of the world."""
    found = [()]
    for name in range(world.hands()):
        found = found + [hands + (name,) for hands in found]
    return found


def others_of(world, hands):
    """The rising tuple of all other hands."""
    return tuple([name for name in range(world.hands()) if name not in hands])


def least_of(is_so):
    """Of a dict from rising tuples of hands to truths: those that are so, but not without one of their hands."""
    return tuple(sorted([hands for hands in is_so if is_so[hands] and not any(is_so_with_less(is_so, hands))]))


def is_so_with_less(is_so, hands):
    """What is so of the hands without each one of them."""
    return [is_so[hands[:at] + hands[at + 1:]] for at in range(len(hands))]
