"""The whole program: a world, a world read of its own text behind each deed, and a desk, told alike."""

from ridingvotes.choosing import can_choose, least_choosers
from ridingvotes.desk import Desk
from ridingvotes.papers import paper
from ridingvotes.reading import read_holding, read_letter, read_lot, read_world
from ridingvotes.showing import show_holding, show_letter, show_lot, show_world
from tests.plain_reader import Reader
from tests.promises import Watch
from tests.walks import SHARES, Walk, outcome
from tests.world_case import WorldCase, all_told


def line_of(deed):
    """The line of a deed, None where no line can say it."""
    if not isinstance(deed, tuple) or not deed or not isinstance(deed[0], str):
        return None
    parts = list(deed[1:])
    if deed[0] == "give" and len(parts) == 3 and isinstance(parts[2], tuple):
        parts[2] = show_lot(parts[2])
    if any(isinstance(part, (bool, list, tuple, type(None))) or (isinstance(part, int) and part < 0) for part in parts):
        return None
    line = " ".join([deed[0]] + [str(part) for part in parts])
    return line if len(deed) == {"ask": 3, "offer": 4, "give": 4}.get(deed[0], 2) and deed[0] != "none" else None


class ToldAlike(WorldCase):
    def test_random_histories(self):
        said = 0
        for seed in range(40):
            walk = Walk(seed)
            read, desk = read_world(show_world(walk.world)), Desk(show_world(walk.world))
            for at in range(120):
                deed, told = walk.step()
                self.is_told(outcome(lambda: read.do(deed)), told)
                line = line_of(deed)
                if line is not None and deed[1] != "0":
                    said += 1
                    answer = told if told[0] != "told" else ("told", "done" if told[1] is None else str(told[1]))
                    self.is_told(outcome(lambda: desk.say(line)), answer)
                elif told[0] == "told":
                    self.fail("no line says it")
                self.assertTrue(read == walk.world)
                text = show_world(walk.world)
                self.is_told(desk.say("text"), text.replace("\n", " | "))
                read = read_world(text)
                if at % 20 == 0:
                    self.asked_alike(walk, read, desk)
                if at % 30 == 29:
                    self.settled_alike(walk, read, desk)
        self.assertGreater(said, 3000)

    def asked_alike(self, walk, read, desk):
        world = walk.world
        self.assertEqual(repr(all_told(read)), repr(all_told(world)))
        self.assertIsNone(Reader(show_world(world)).wrong())
        for first, last, place, _, _ in world.spots():
            for point in range(first, last + 1):
                self.is_told(desk.say(f"where {point}"), " ".join(map(str, place)))
        for name in walk.names:
            book = world.hand(name).book()
            self.is_told(read_holding(desk.say(f"holds {name}")), book[1])
            self.is_told(desk.say(f"knows {name}"), ",".join(map(str, book[6])) or "-")
        for row in range(5):
            self.is_told(paper(read, row), paper(world, row))
            word = dict(world.chosen()).get(row)
            self.is_told(desk.say(f"chosen {row}"), "-" if word is None else str(word))
            told = paper(world, row)
            if told is None:
                self.is_told(desk.say(f"paper {row}"), "-")
            else:
                head, *parts = desk.say(f"paper {row}").split(" ; ")
                self.is_told(head, f"{row} {told[2][0]}.{told[2][1]} {told[3]}")
                found = [part.split(" ") for part in parts]
                self.is_told(tuple((int(name), read_lot(lot)) for name, lot in found), told[4])
        road = desk.say("road")
        self.is_told(tuple(read_letter(text) for text in road.split(" ; ")) if road != "-" else (), world.road())
        for letter in world.road():
            self.is_told(read_letter(show_letter(letter)), letter)
        for name in walk.names:
            holding = world.hand(name).book()[1]
            self.is_told(read_holding(show_holding(holding)), holding)
        hands = tuple(walk.dice.sample(walk.names, walk.dice.randrange(1, len(walk.names) + 1)))
        self.is_told(desk.say("choose " + " ".join(map(str, hands))), "yes" if can_choose(world, hands) else "no")
        self.is_told(tuple(tuple(map(int, names.split(","))) for names in desk.say("least").split(" ")),
                     least_choosers(world))

    def settled_alike(self, walk, read, desk):
        hands = tuple(walk.dice.sample(walk.names, walk.dice.randrange(1, len(walk.names) + 1)))
        told = outcome(lambda: walk.world.settle(hands))
        self.is_told(outcome(lambda: read.settle(hands)), told)
        line = "settle " + " ".join(map(str, hands))
        self.is_told(outcome(lambda: desk.say(line)), told if told[0] != "told" else ("told", str(told[1])))
        self.assertTrue(read == walk.world)

    def test_desks_keep_what_the_whole_promises(self):
        """A desk alone, led by lines; its worlds are watched by its texts."""
        rows = 0
        for seed in range(7000, 7016):
            walk, watch = Walk(seed, SHARES[seed % 7]), Watch(self)
            desk = Desk(show_world(walk.world))
            for _ in range(150):
                deed, told = walk.step()
                if told[0] == "told":
                    desk.say(line_of(deed))
                watch.look(read_world(desk.say("text").replace(" | ", "\n")))
            rows += len(watch.words)
        self.assertGreater(rows, 15)
