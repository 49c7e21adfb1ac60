"""What is kept by rows, as tuples that are made anew at each change, so that copies may share them.

Pairs are a rising tuple of (row, what is kept of it), no row twice; a log has (row, ballot, word, lot), rising, too.
"""

from ridingvotes.lots import joined


def worth(pairs, row):
    """What is kept of the row, None where nothing is."""
    for place, what in pairs:
        if place == row:
            return what
    return None


def put(pairs, row, what):
    """The pairs, what is kept of the row being this now."""
    if pairs == () or pairs[-1][0] < row:
        return pairs + ((row, what),)
    return tuple(sorted([pair for pair in pairs if pair[0] != row] + [(row, what)]))


def pairs_from(pairs, floor):
    """What is kept of the rows from floor on."""
    if pairs == () or pairs[0][0] >= floor:
        return pairs
    return tuple([pair for pair in pairs if pair[0] >= floor])


def replaced(things, at, thing):
    """The tuple of the things, this one in place of that with number at."""
    return things[:at] + (thing,) + things[at + 1:]


def written(log, row, ballot, word, lot):
    """The log with the points of the lot, too, which took the word of the row by the ballot."""
    if lot == ():
        return log
    place = (row, ballot)
    # Most is written of late rows, so that the place is near the end.
    at = len(log)
    while at > 0 and log[at - 1][:2] > place:
        at -= 1
    if at == 0 or log[at - 1][:2] != place:
        return log[:at] + ((row, ballot, word, lot),) + log[at:]
    return replaced(log, at - 1, (row, ballot, word, joined(log[at - 1][3], lot)))
