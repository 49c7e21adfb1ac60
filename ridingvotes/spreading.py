"""Spreading points over hands so that whichever few hands fall, the others still have more than half of all."""

from ridingvotes.basics import has_parts, is_from


def spread(shares, falls):
    """(moves, behind): shares behind that bear so many falls, with the fewest points passed; None without any."""
    # Without falls all shares are as they should be.
    if falls == 0:
        return (0, shares)
    bound = best_bound(shares, falls)
    if bound is None:
        return None
    moves = max(0, over(shares, bound) - room_over(shares, falls, bound))
    return (moves, passed(shares, bound, moves))


def most_to_fall(shares):
    """How many points may fall at most, all others being more than half."""
    return (sum(shares) - 1) // 2


def over(shares, bound):
    """How many points of the shares are over the bound."""
    return sum([max(0, share - bound) for share in shares])


def room_over(shares, falls, bound):
    """How many points of all shares may be over the bound, so that no shares to fall have more than may fall."""
    return most_to_fall(shares) - falls * bound


def best_bound(shares, falls):
    """The bound by which the fewest points must be passed from over it to below it, None where none can do.

    The greatest shares, so many as falls, have no more points than may fall just where, for some bound, all shares
    together are over it by no more than room_over tells. So each bound can be asked alone, and the best one is told.
    """
    most = most_to_fall(shares)
    high = most // falls
    # All points that may not be over the bound must have room below it: so low it may be, rounded up.
    low = -((most - sum(shares)) // (len(shares) - falls))
    if low > high:
        return None
    # Up to the least of the greatest shares a greater bound never needs more moves, beyond it never fewer.
    best = sorted(shares, reverse=True)[falls - 1]
    return max(low, min(high, best))


def passed(shares, bound, moves):
    """The shares when so many points were passed from over the bound to below it."""
    behind = []
    leaving = coming = moves
    for share in shares:
        leaves = min(leaving, max(0, share - bound))
        comes = min(coming, max(0, bound - share))
        leaving -= leaves
        coming -= comes
        behind.append(share - leaves + comes)
    return tuple(behind)


def shows_spread(shares, falls, thing):
    """Whether the thing, of whatever kind, is such a spread, with so few points passed."""
    least = spread(shares, falls)
    if least is None:
        return thing is None
    if not has_parts(thing, 2) or not is_from(thing[0], 0) or thing[0] != least[0]:
        return False
    moves, behind = thing
    if not has_parts(behind, len(shares)) or not all([is_from(share, 0) for share in behind]):
        return False
    if sum(behind) != sum(shares) or not bears(behind, falls):
        return False
    return moves == sum([max(0, ahead - share) for ahead, share in zip(shares, behind)])


def bears(shares, falls):
    """Whether, whichever so many hands are left out, the others have more than half of all points."""
    return sum(sorted(shares, reverse=True)[:falls]) <= most_to_fall(shares)
