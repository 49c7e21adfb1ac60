"""What the whole promises of each moment, held by points: watched behind each step of a world."""

from ridingvotes.counts import must
from ridingvotes.papers import paper, shows_chosen
from ridingvotes.slips import is_later
from tests.hand_case import parts_of


def points_of(lot):
    return [point for first, last in lot for point in range(first, last + 1)]


def places_of(world):
    """A dict from each point to a list of its (slip, floor), one for each place, by the hands' books."""
    found = {}
    books = [parts_of(world.hand(name)) for name in range(world.hands())]
    for name, book in enumerate(books):
        places = [(book["holding"], len(book["known"]))]
        for to, number, holding, since, words in book["outbox"]:
            if number >= books[to]["taken"][name]:
                places.append((holding, since + len(words)))
        for holding, floor in places:
            for first, last, slip in holding:
                for point in range(first, last + 1):
                    found.setdefault(point, []).append((slip, floor))
    return found


def chosen_of(world):
    """The set of (row, ballot, word) that more than half of all points took, by all logs."""
    took = {}
    for name in range(world.hands()):
        for row, ballot, word, lot in parts_of(world.hand(name))["log"]:
            took.setdefault((row, ballot, word), set()).update(points_of(lot))
    return {key for key, points in took.items() if 2 * len(points) > world.points()}


class Watch:
    """Asks the promises (a) to (e) of each moment of one world, by a test case."""

    def __init__(self, case):
        self.case = case
        self.places, self.words, self.known, self.papers = None, {}, {}, {}

    def copy(self):
        """A watch that goes on from the same moment."""
        other = Watch(self.case)
        other.places = self.places
        other.words, other.known, other.papers = dict(self.words), dict(self.known), dict(self.papers)
        return other

    def look(self, world):
        self.look_at_points(world)
        found = chosen_of(world)
        self.look_at_words(world, found)
        self.look_at_askings(world, found)
        self.look_at_papers(world)

    def look_at_points(self, world):
        """(a) and (b)."""
        places = places_of(world)
        self.case.assertEqual(sorted(places), list(range(world.points())))
        for point, here in places.items():
            self.case.assertEqual(len(here), 1)
            slip, floor = here[0]
            if self.places is not None:
                was, low = self.places[point]
                self.case.assertGreaterEqual(floor, low)
                self.case.assertTrue(is_later(was, slip, floor=floor))
        self.places = {point: here[0] for point, here in places.items()}

    def look_at_words(self, world, found):
        """(c)."""
        for row, _, word in found:
            self.case.assertEqual(self.words.setdefault(row, word), word)
        self.case.assertEqual(dict(world.chosen()), self.words)
        for name in range(world.hands()):
            book = parts_of(world.hand(name))
            known = dict(enumerate(book["known"])) | dict(book["more"])
            for row, word in known.items():
                self.case.assertEqual(self.words.get(row), word)
            for row, word in self.known.get(name, {}).items():
                self.case.assertEqual(known.get(row), word)
            self.known[name] = known

    def look_at_askings(self, world, found):
        """(d)."""
        for name in range(world.hands()):
            parts = parts_of(world.hand(name))
            gathered = parts["gathered"]
            if gathered in (None, "down") or 2 * sum(last - first + 1 for first, last, _ in gathered) <= world.points():
                continue
            bound = dict(must(gathered)) | dict(parts["offers"])
            for row, ballot, word in found:
                if ballot < (parts["number"], name) and row not in self.known[name]:
                    self.case.assertEqual(bound.get(row), word)

    def look_at_papers(self, world):
        """(e)."""
        for row, word in self.words.items():
            told = paper(world, row)
            self.case.assertEqual(told[3], word)
            self.case.assertTrue(shows_chosen(world, told))
            self.case.assertFalse(shows_chosen(world, told[:3] + (word + 1,) + told[4:]))
            if self.papers.setdefault(row, told) != told:
                self.case.assertTrue(shows_chosen(world, self.papers[row]))
