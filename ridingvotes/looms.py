"""Looms: the states of weavings by numbers, and what comes of each.

What a hand does and hears hangs on what it is, and on nothing else of the world. So each hand as it may be, and each
letter, that is met has a number, and what comes of a hand by a deed or a letter is asked once, however many states have
both. A state is (hands, done, letters): the tuple of the hands by their numbers, the tuple of how many deeds of each
plan are done, and the rising tuple of the letters on the road by their numbers.
"""

from ridingvotes.errors import Missing, VoteError
from ridingvotes.pairs import replaced
from ridingvotes.restoring import copy_of
from ridingvotes.worlds import chosen_of, deed_of, is_deed_of_hand, took_by


def with_sent(letters, sent):
    """The rising tuple of the letters on the road and of those that are sent now, by their numbers."""
    return tuple(sorted(letters + sent)) if sent else letters


class Loom:
    """The hands and letters met so far in the weavings of one world, and what came of them."""

    def __init__(self, points, plans):
        self.points_in_all = points
        self.plans = plans
        self.hands_met = []
        self.hand_numbers = {}
        self.letters_met = []
        self.letter_numbers = {}
        # What comes of a hand, (its number behind, the letters sent): of (its number, how many deeds are done ahead of
        # the one that it does) and of (its number, the letter that comes).
        self.by_deeds = {}
        self.by_letters = {}

    def first_state(self, world):
        """The state of the world, no deed being done."""
        hands = tuple([self.hand_number(hand) for hand in world.members])
        return (hands, (0,) * len(self.plans), tuple(sorted(self.numbers_of(world.road()))))

    def end_of(self, state):
        """(knows, chosen) of a state in which nothing is left."""
        hands = [self.hands_met[number] for number in state[0]]
        return (tuple([hand.known for hand in hands]), chosen_of(took_by(hands), self.points_in_all))

    def states_behind(self, state):
        """The states that one deed or one letter leads to, perhaps the same one several times."""
        hands, done, letters = state
        found = []
        for name, plan in enumerate(self.plans):
            many = done[name]
            if many < len(plan):
                number, sent = self.behind_deed(hands[name], plan, many)
                behind = replaced(hands, name, number)
                found.append((behind, replaced(done, name, many + 1), with_sent(letters, sent)))
        ahead = None
        for at, letter in enumerate(letters):
            # The same letter once more, which stands next to it, leads to the same state.
            if letter != ahead:
                name = self.letters_met[letter][2]
                number, sent = self.behind_letter(hands[name], letter)
                behind = replaced(hands, name, number)
                found.append((behind, done, with_sent(letters[:at] + letters[at + 1:], sent)))
            ahead = letter
        return found

    # What comes of one hand, by its number.

    def behind_deed(self, number, plan, many):
        """What comes of the hand by the deed of its plan ahead of which so many are done."""
        both = (number, many)
        if both not in self.by_deeds:
            self.by_deeds[both] = self.do_deed(number, plan[many])
        return self.by_deeds[both]

    def behind_letter(self, number, letter):
        """What comes of the hand by the letter."""
        both = (number, letter)
        if both not in self.by_letters:
            self.by_letters[both] = self.hear_letter(number, self.letters_met[letter])
        return self.by_letters[both]

    def do_deed(self, number, deed):
        """What comes of the hand by the deed, which changes nothing where it is refused."""
        hand = copy_of(self.hands_met[number])
        word, *parts = deed
        deed = (word, hand.name, *parts)
        if not is_deed_of_hand(deed):
            return (number, ())
        try:
            told = deed_of(hand, deed)
        except (VoteError, Missing):
            return (number, ())
        return (self.hand_number(hand), self.numbers_of(told[1]))

    def hear_letter(self, number, letter):
        """What comes of the hand by the letter, which is lost where the hand is down."""
        if not self.hands_met[number].is_up:
            return (number, ())
        hand = copy_of(self.hands_met[number])
        sent = hand.answer(letter)
        return (self.hand_number(hand), self.numbers_of(sent))

    # Numbers.

    def numbers_of(self, letters):
        """The tuple of the letters' numbers, in the same order."""
        return tuple([self.letter_number(letter) for letter in letters])

    def letter_number(self, letter):
        """The letter's number, the next one where it wasn't met."""
        number = self.letter_numbers.setdefault(letter, len(self.letters_met))
        if number == len(self.letters_met):
            self.letters_met.append(letter)
        return number

    def hand_number(self, hand):
        """The number of the hand, which is not changed from here on; the next one where it wasn't met."""
        number = self.hand_numbers.setdefault(self.key_of(hand), len(self.hands_met))
        if number == len(self.hands_met):
            self.hands_met.append(hand)
        return number

    def key_of(self, hand):
        """What is alike just for hands of like book and mind."""
        book = hand.book()
        if hand.outbox != ():
            # The parcels as they stand there would be too deep for a key.
            parcels = self.numbers_of([hand.parcel_letter(parcel) for parcel in hand.outbox])
            book = book[:8] + (parcels,) + book[9:]
        return book + (hand.mind() or (None,))
