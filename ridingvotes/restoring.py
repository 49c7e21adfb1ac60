"""Hands made anew: of a book and a mind, or of a hand alike."""

from ridingvotes.hands import Hand


def restored(book, mind, points):
    """The hand of this book and mind, of so many points in all."""
    name, holding, heard, standing, number, offers, known, more, outbox, sent, taken, log = book
    hand = Hand(name, len(sent), points, holding)
    hand.heard = heard
    hand.standing = standing
    hand.number = number
    hand.offers = offers
    hand.known = known
    hand.more = more
    hand.outbox = outbox
    hand.sent = sent
    hand.taken = taken
    hand.log = log
    hand.is_up = mind is not None
    if mind is None:
        # What a rise finds is made behind known, of which it tells how many rows there are.
        hand.clear_mind()
    else:
        hand.gathered, hand.counts, hand.learns, hand.late = mind
    return hand


def copy_of(hand):
    """A hand alike, of its own; what they keep is never changed but replaced, so that both may have the very same."""
    return restored(hand.book(), hand.mind(), hand.all_points)
