"""Hands made anew of what they tell: of a book and a mind."""

from ridingvotes.hands import Hand


def restored(book, mind, points):
    """The hand of this book and mind, of so many points in all."""
    name, holding, heard, standing, number, offers, known, more, outbox, sent, taken, log = book
    hand = Hand(name, len(sent), points, holding)
    hand.heard = heard
    hand.standing = dict(standing)
    hand.number = number
    hand.offers = dict(offers)
    hand.known = known
    hand.more = dict(more)
    hand.outbox = outbox
    hand.sent = list(sent)
    hand.taken = list(taken)
    hand.log = {(row, ballot): (word, lot) for row, ballot, word, lot in log}
    hand.is_up = mind is not None
    # What a rise finds is made behind known, of which it tells how many rows there are.
    hand.clear_mind()
    if mind is not None:
        put_mind(hand, mind)
    return hand


def put_mind(hand, mind):
    """The hand has this mind."""
    gathered, counts, learns, late = mind
    hand.gathered = gathered
    hand.counts = dict(counts)
    hand.learns = list(learns)
    hand.late = late


def copy_of(hand):
    """A hand alike, of its own."""
    return restored(hand.book(), hand.mind(), hand.all_points)
