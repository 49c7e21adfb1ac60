import unittest

from ridingvotes.counts import must
from ridingvotes.hands import Hand
from ridingvotes.slips import is_later
from tests.hand_case import parts_of
from tests.histories import History, state

SHARES = ((3, 3, 3), (2, 2, 1), (5, 0), (4, 3), (1, 2, 3, 1), (7,), (0, 0, 5), (1, 1, 1, 1, 1), (6, 1, 1),
          (1,) * 8)


def spots(hands):
    """A dict from each point to a list of its (slip, floor), one for each place where it is."""
    found = {}
    books = [parts_of(hand) for hand in hands]
    for name, book in enumerate(books):
        places = [(book["holding"], len(book["known"]))]
        for to, number, holding, since, words in book["outbox"]:
            if number >= books[to]["taken"][name]:
                places.append((holding, since + len(words)))
        for holding, floor in places:
            for first, last, slip in holding:
                for point in range(first, last + 1):
                    found.setdefault(point, []).append((slip, floor))
    return found


def chosen(hands, points):
    """The set of (row, ballot, word) that more than half of all points took, by all logs."""
    took = {}
    for hand in hands:
        for row, ballot, word, lot in parts_of(hand)["log"]:
            took.setdefault((row, ballot, word), set()).update(
                point for first, last in lot for point in range(first, last + 1))
    return {key for key, lot in took.items() if 2 * len(lot) > points}


class AsPlainHands(unittest.TestCase):
    def test_each_deed_does_what_a_plain_hand_does(self):
        for seed in range(200):
            history = History(seed, SHARES[seed % len(SHARES)])
            for _ in range(250):
                done = history.step()
                if done is not None:
                    name, told, plain = done
                    self.assertEqual(repr(told), repr(plain))
                    self.assertEqual(repr(state(history.hands[name])), repr(state(history.plain[name])))

    def test_the_same_history_twice(self):
        for seed in range(20):
            one, other = (History(seed, SHARES[seed % len(SHARES)], plain=False) for _ in range(2))
            for _ in range(200):
                one.step()
                other.step()
            self.assertEqual(one.road, other.road)
            for name, hand in enumerate(one.hands):
                self.assertTrue(hand == other.hands[name])
                self.assertFalse(hand != other.hands[name])
                self.assertEqual(repr(state(hand)), repr(state(other.hands[name])))
                for unlike in one.hands[:name] + one.hands[name + 1:]:
                    self.assertFalse(hand == unlike)


class TheWhole(unittest.TestCase):
    def watch(self, history, ahead, words):
        """Asks the promises (a) to (d) of this moment; ahead is what spots told at the last one, words what is chosen.

        Told is what spots tells now.
        """
        now = spots(history.hands)
        self.assertEqual(sorted(now), list(range(history.all)))
        for point, places in now.items():
            self.assertEqual(len(places), 1)
            (slip, floor), = places
            if ahead:
                (was, low), = ahead[point]
                self.assertGreaterEqual(floor, low)
                self.assertTrue(is_later(was, slip, floor=floor))
        found = chosen(history.hands, history.all)
        for row, _, word in found:
            self.assertEqual(words.setdefault(row, word), word)
        for hand in history.hands:
            book = parts_of(hand)
            for row, word in tuple(enumerate(book["known"])) + book["more"]:
                self.assertEqual(words.get(row), word)
        self.watch_askings(history, found)
        return now

    def watch_askings(self, history, found):
        for name in history.with_most():
            book, gathered = parts_of(history.hands[name]), history.hands[name].mind()[0]
            known = dict(enumerate(book["known"])) | dict(book["more"])
            bound = dict(must(gathered)) | dict(book["offers"])
            for row, ballot, word in found:
                if ballot < (book["number"], name):
                    self.assertEqual(known.get(row, bound.get(row)), word)

    def test_one_place_slips_grow_one_word_kept_in_mind(self):
        rows = 0
        for seed in range(1000, 1120):
            history = History(seed, SHARES[seed % len(SHARES)], plain=False)
            ahead, words, knew = None, {}, {}
            for _ in range(250):
                history.step()
                ahead = self.watch(history, ahead, words)
                for name, hand in enumerate(history.hands):
                    known = parts_of(hand)["known"]
                    self.assertEqual(known[:len(knew.get(name, ()))], knew.get(name, ()))
                    knew[name] = known
            rows += len(words)
        # Else nothing would have been watched.
        self.assertGreater(rows, 300)

    def settle(self, history):
        """All hands do again and all letters come, until there are no more parcels."""
        for _ in range(4):
            for name in range(len(history.hands)):
                history.do(name, "again")
            while history.road:
                history.come()
        self.assertEqual([parts_of(hand)["outbox"] for hand in history.hands], [()] * len(history.hands))

    def calm(self, history):
        """All letters are lost, all hands are up, and no parcel is left."""
        history.road.clear()
        for name, hand in enumerate(history.hands):
            if hand.mind() is None:
                history.do(name, "rise")
        self.settle(history)

    def test_going_on_until_all_know_the_same_words(self):
        for seed in range(2000, 2060):
            history = History(seed, SHARES[seed % len(SHARES)], plain=False)
            for _ in range(200):
                history.step()
            self.calm(history)
            asker = seed % len(history.hands)
            history.do(asker, "ask", 10 ** 6 + seed)
            self.settle(history)
            hand = history.hands[asker]
            beyond = 2 + max([len(parts_of(other)["known"]) + len(parts_of(other)["more"]) for other in history.hands]
                             + [row for row, _, _, _ in sum((parts_of(other)["log"] for other in history.hands), ())])
            for row in range(len(parts_of(hand)["known"]), beyond):
                if row >= len(parts_of(hand)["known"]):
                    self.assertEqual(history.do(asker, "offer", row, 5)[0][0], "told")
                    self.settle(history)
            self.assertGreaterEqual(len(parts_of(hand)["known"]), beyond)
            self.assertEqual({parts_of(other)["known"] for other in history.hands}, {parts_of(hand)["known"]})
            self.watch(history, None, {})

    def test_alone_with_most_points(self):
        for seed in range(3000, 3040):
            history = History(seed, (5, 2, 2), plain=False)
            for _ in range(60):
                history.step()
            self.calm(history)
            for giver in (1, 2):
                lot = tuple(run[:2] for run in parts_of(history.hands[giver])["holding"])
                for run in lot:
                    history.do(giver, "give", 0, (run,))
            self.settle(history)
            hand = history.hands[0]
            self.assertEqual(hand.held(), 9)
            # Nothing comes from here on.
            hand.ask(10 ** 6)
            row = len(parts_of(hand)["known"])
            word, _ = hand.offer(row, 3)
            self.assertEqual(parts_of(hand)["known"][row], word)

    def test_eight_hands_with_great_lots(self):
        share = 10 ** 11
        hands = [Hand(name, 8, 8 * share, ((name * share, (name + 1) * share - 1, ((0, 0), ())),))
                 for name in range(8)]
        road = list(hands[7].ask(1))
        while road:
            letter = road.pop(0)
            road.extend(hands[letter[2]].hear(letter))
        word, letters = hands[7].offer(0, 9)
        road = list(letters)
        while road:
            letter = road.pop(0)
            road.extend(hands[letter[2]].hear(letter))
        self.assertEqual({parts_of(hand)["known"] for hand in hands}, {(9,)})
        self.assertEqual(hands[7].mind()[0], ((0, 8 * share - 1, ((1, 7), ())),))


if __name__ == "__main__":
    unittest.main()
