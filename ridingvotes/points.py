"""What points do: they promise ballots and take words. All points of a run do so at once."""

from ridingvotes.basics import knitted


def promising(holding, ballot):
    """(holding, told): points that promised less promise the ballot; told has all that promised just it then."""
    behind = knitted([(first, last, promised(slip, ballot)) for first, last, slip in holding])
    return (behind, tuple([run for run in behind if run[2][0] == ballot]))


def promised(slip, ballot):
    """The slip behind an asking by the ballot."""
    return (max(slip[0], ballot), slip[1])


def taking(holding, ballot, row, word):
    """(holding, lot): points that promised no greater ballot take the word; lot has all that took just this then."""
    part = (row, ballot, word)
    behind = knitted([(first, last, took(slip, part)) for first, last, slip in holding])
    # A point that promised a greater ballot since still has the word, so that it is told, too.
    return (behind, knitted([run[:2] for run in behind if part in run[2][1]]))


def took(slip, part):
    """The slip behind an offer, part being its (row, ballot, word)."""
    row, ballot, _ = part
    if slip[0] > ballot:
        return slip
    others = [kept for kept in slip[1] if kept[0] != row]
    return (ballot, tuple(sorted(others + [part])))
