from ridingvotes.desk import Desk
from ridingvotes.errors import (Fallen, FarRow, Known, NoHand, NoLetter, NoLine, NoLot, NoPoint, NotHeld, NotMost,
                                NoText,
                                OldBallot, Standing)
from ridingvotes.reading import read_world
from ridingvotes.showing import show_world
from tests.misspelling import STRANGE, signs_otherwise
from tests.things import DEEPEST, FAR, LONG, ODD, nested
from tests.world_case import ASKED, CHOSEN, WorldCase, led

FORMS = {"ask": 2, "offer": 3, "give": 3, "again": 1, "fall": 1, "rise": 1, "come": 1, "lose": 1, "double": 1,
         "road": 0,
         "holds": 1, "knows": 1, "where": 1, "chosen": 1, "paper": 1, "least": 0, "text": 0}


def desk_of(shares, *deeds):
    return Desk(show_world(led(shares, *deeds)))


class DeskCase(WorldCase):
    def says(self, desk, line, told):
        self.is_told(desk.say(line), told)

    def refuses(self, desk, error, value, line):
        """The line is refused with just this, nothing being changed."""
        before = desk.say("text")
        self.refused(None, error, value, desk.say, line)
        self.is_told(desk.say("text"), before)


class Deeds(DeskCase):
    def leads(self, shares, deeds, pairs):
        """Each line does what its deed does on a world, and is answered so."""
        world, desk = led(shares, *deeds), desk_of(shares, *deeds)
        for line, deed in pairs:
            told = world.do(deed)
            self.says(desk, line, "done" if told is None else str(told))
            self.is_told(desk.say("text"), show_world(world).replace("\n", " | "))

    def test_each_of_them(self):
        self.leads((3, 3, 3), (), (
            ("ask 0 1", ("ask", 0, 1)), ("come 1", ("come", 1)), ("come 0", ("come", 0)), ("double 0", ("double", 0)),
            ("come 2", ("come", 2)), ("lose 1", ("lose", 1)), ("offer 0 1 7", ("offer", 0, 1, 7)),
            ("offer 0 1 8", ("offer", 0, 1, 8)), ("offer 0 0 0", ("offer", 0, 0, 0)),
            ("give 0 2 1", ("give", 0, 2, ((1, 1),))),
            ("give 1 0 3,5", ("give", 1, 0, ((3, 3), (5, 5)))), ("give 2 0 6-7", ("give", 2, 0, ((6, 7),))),
            ("again 0", ("again", 0)), ("fall 2", ("fall", 2)), ("rise 2", ("rise", 2)), ("again 1", ("again", 1))))

    def test_offer_tells_the_word_offered(self):
        desk = desk_of((3, 3, 3), *ASKED)
        self.says(desk, "offer 0 0 7", "7")
        self.says(desk, "offer 0 0 8", "7")
        self.says(desk, "offer 0 1 0", "0")
        self.says(desk, "offer 0 19 999999999999", "999999999999")

    def test_settle(self):
        desk, world = desk_of((3, 3, 3), ("ask", 0, 1)), led((3, 3, 3), ("ask", 0, 1))
        for line, hands in (("settle 0 1", (0, 1)), ("settle 2", (2,)), ("settle 2 1 0", (2, 1, 0))):
            self.says(desk, line, str(world.settle(hands)))
            self.is_told(desk.say("text"), show_world(world).replace("\n", " | "))
        self.says(desk, "offer 0 0 7", "7")
        self.says(desk, "settle 0 1 2", "14")
        self.says(desk, "settle 1", "0")


class Asked(DeskCase):
    def test_road(self):
        desk = desk_of((3, 3, 3))
        self.says(desk, "road", "-")
        desk.say("ask 0 1")
        self.says(desk, "road", "ask 0 1 1.0 0 ; ask 0 2 1.0 0")
        desk.say("lose 0")
        self.says(desk, "road", "ask 0 2 1.0 0")

    def test_holds(self):
        desk = desk_of((3, 0, 2), ("ask", 0, 1), ("offer", 0, 1, 7), ("fall", 2), ("give", 0, 1, ((1, 1),)))
        self.says(desk, "holds 0", "0-0:1.0/1=1.0=7;2-2:1.0/1=1.0=7")
        self.says(desk, "holds 1", "-")
        self.says(desk, "holds 2", "3-4:-")

    def test_knows(self):
        desk = desk_of((3, 1), ("ask", 0, 1), ("offer", 0, 0, 7), ("offer", 0, 2, 9))
        self.says(desk, "knows 0", "7")
        self.says(desk, "knows 1", "-")
        self.says(desk, "offer 0 1 8", "8")
        self.says(desk, "knows 0", "7,8,9")
        desk.say("fall 0")
        self.says(desk, "knows 0", "7,8,9")

    def test_where(self):
        desk = desk_of((3, 3, LONG), ("give", 0, 1, ((0, 0),)), ("give", 0, 1, ((2, 2),)), ("give", 1, 2, ((3, 3),)),
                       ("come", 2))
        for point, place in ((0, "0 1 0"), (1, "0"), (2, "0 1 1"), (3, "2"), (4, "1"), (6, "2"), (LONG + 5, "2")):
            self.says(desk, f"where {point}", place)
        desk.say("fall 0")
        desk.say("lose 0")
        self.says(desk, "where 0", "0 1 0")

    def test_chosen(self):
        desk = desk_of((3, 3, 3), *CHOSEN)
        self.says(desk, "chosen 0", "7")
        self.says(desk, "chosen 1", "-")
        self.says(desk, "chosen 999999999999", "-")
        self.says(desk_of((1,), ("ask", 0, 1), ("offer", 0, 3, 0)), "chosen 3", "0")

    def test_paper(self):
        desk = desk_of((3, 3, 3), *CHOSEN)
        self.says(desk, "paper 0", "0 1.0 7 ; 0 0-2 ; 1 3-5 ; 2 6-8")
        self.says(desk, "paper 1", "-")
        desk = desk_of((3, 1, 0), ("ask", 0, 2), ("offer", 0, 5, 9))
        self.says(desk, "paper 5", "5 2.0 9 ; 0 0-2")
        desk = desk_of((3, 3, 0), *ASKED, ("give", 0, 1, ((1, 1),)), ("offer", 0, 0, 7), ("come", 1), ("come", 0))
        self.says(desk, "paper 0", "0 1.0 7 ; 0 0,2 ; 1 1,3-5")

    def test_choose(self):
        desk = desk_of((4, 2, 2), ("fall", 0))
        for line, told in (("choose 0", "no"), ("choose 1 2", "no"), ("choose 0 1", "yes"), ("choose 2 0", "yes"),
                           ("choose 1 0 2", "yes"), ("choose 1", "no")):
            self.says(desk, line, told)
        desk = desk_of((4, 2, 2), ("give", 0, 1, ((0, 3),)))
        for line, told in (("choose 0 2", "no"), ("choose 0 1", "yes"), ("choose 1 2", "no"), ("choose 0", "no")):
            self.says(desk, line, told)

    def test_least(self):
        self.says(desk_of((3, 3, 3)), "least", "0,1 0,2 1,2")
        self.says(desk_of((4, 2, 2)), "least", "0,1 0,2")
        self.says(desk_of((5, 2, 2)), "least", "0")
        self.says(desk_of((1, 1, 1, 2), ("fall", 3)), "least", "0,1,2 0,3 1,3 2,3")

    def test_text(self):
        for deeds in ((), ASKED, CHOSEN, ASKED + (("offer", 0, 1, 7), ("give", 1, 0, ((4, 4),)), ("fall", 2))):
            world = led((3, 3, 3), *deeds)
            self.says(Desk(show_world(world)), "text", " | ".join(show_world(world).split("\n")))

    def test_a_desk_of_that_text_goes_on_alike(self):
        desk = desk_of((3, 3, 3))
        for line in ("ask 0 1", "settle 0 1", "offer 0 0 7", "give 0 2 0-1", "come 0", "come 0", "fall 1", "come 0",
                     "rise 1",
                     "ask 1 2", "again 0", "settle 0 1 2", "offer 1 1 8", "settle 2 1", "paper 0", "road", "least"):
            other = Desk(desk.say("text").replace(" | ", "\n"))
            self.assertIsNot(other, desk)
            self.is_told(other.say(line), desk.say(line))
            self.is_told(other.say("text"), desk.say("text"))

    def test_asking_changes_nothing(self):
        desk = desk_of((3, 3, 3), *CHOSEN, ("give", 0, 1, ((0, 0),)))
        before = desk.say("text")
        for line in ("road", "holds 0", "knows 0", "where 0", "chosen 0", "paper 0", "choose 0 1", "least", "text"):
            self.is_told(desk.say(line), desk.say(line))
            self.is_told(desk.say("text"), before)

    def test_by_names(self):
        desk = Desk(text=show_world(led((3, 2))))
        self.is_told(desk.say(line="holds 1"), "3-4:-")


class Refused(DeskCase):
    def test_as_the_world_and_the_hand_refuse(self):
        desk = desk_of((3, 3, 3), *CHOSEN, ("fall", 2))
        for line, error, value in (
                ("ask 3 9", NoHand, 3), ("ask 2 9", Fallen, 2), ("ask 0 1", OldBallot, 1), ("ask 0 0", OldBallot, 0),
                ("offer 3 1 7", NoHand, 3), ("offer 2 1 7", Fallen, 2), ("offer 1 1 7", NotMost, 1),
                ("offer 0 0 7", Known, 0), ("offer 0 21 7", FarRow, 21), ("give 3 0 0", NoHand, 3),
                ("give 2 0 6", Fallen, 2), ("give 0 0 0", NoHand, 0), ("give 0 3 0", NoHand, 3),
                ("give 0 1 -", NoLot, ()),
                ("give 0 1 1-3", NotHeld, 3), ("again 3", NoHand, 3), ("again 2", Fallen, 2), ("fall 2", Fallen, 2),
                ("fall 9", NoHand, 9), ("rise 0", Standing, 0), ("rise 3", NoHand, 3), ("come 0", NoLetter, 0),
                ("lose 0", NoLetter, 0), ("double 7", NoLetter, 7), ("settle 3", NoHand, 3), ("settle 0 0", NoHand, 0),
                ("settle 0 2", Fallen, 2), ("settle 2 1 2", NoHand, 2), ("settle 2 0 3", NoHand, 3),
                ("holds 3", NoHand, 3),
                ("knows 3", NoHand, 3), ("choose 3", NoHand, 3), ("choose 0 0", NoHand, 0),
                ("choose 0 1 1 3", NoHand, 1),
                ("choose 2 0 3 3", NoHand, 3), ("where 9", NoPoint, 9), ("where 999999999999", NoPoint, FAR)):
            with self.subTest(line):
                self.refuses(desk, error, value, line)

    def test_several_due(self):
        desk = desk_of((3, 3, 3), ("fall", 2))
        for line, error, value in (
                ("give 2 2 -", Fallen, 2), ("give 0 0 -", NoHand, 0), ("give 3 9 -", NoHand, 3),
                ("give 0 1 -", NoLot, ()),
                ("offer 2 99 7", Fallen, 2), ("offer 0 99 7", NotMost, 0), ("ask 2 0", Fallen, 2),
                ("settle 2 2", NoHand, 2),
                ("settle 2 3", NoHand, 3)):
            self.refuses(desk, error, value, line)

    def test_hands_of_choose_may_be_down(self):
        desk = desk_of((3, 3, 3), ("fall", 2), ("fall", 1))
        self.says(desk, "choose 2", "no")
        self.says(desk, "choose 1 2", "yes")

    def test_points_in_parcels_are_there(self):
        desk = desk_of((3, 3), ("give", 0, 1, ((0, 2),)))
        self.says(desk, "where 0", "0 1 0")
        self.refuses(desk, NoPoint, 6, "where 6")

    def test_no_line_by_its_form(self):
        desk = desk_of((3, 3, 3), ("ask", 0, 1))
        for word, many in FORMS.items():
            parts = ["0"] * many
            for line in (" ".join([word] + parts + ["0"]), " ".join([word] + parts[1:]) if many else word + " -",
                         " ".join([word] + parts) + " ", " " + " ".join([word] + parts), word.upper(), word + "s",
                         "  ".join([word] + parts) if many else word + "  ", "\t".join([word] + parts + [""]),
                         " ".join([word] + parts) + "\n", "\n" + " ".join([word] + parts)):
                self.refuses(desk, NoLine, line, line)
            for at in range(many):
                for part in ("", "-1", "+1", "00", "01", "1.0", "x", "1000000000000", "1" * 5000, "None", "True",
                             "0x1", "1_0",
                             "\u0663", "\u00b2", "0-1" if (word, at) != ("give", 2) else "1-1",
                             "-" if (word, at) != ("give", 2) else "--"):
                    line = " ".join([word] + parts[:at] + [part] + parts[at + 1:])
                    self.refuses(desk, NoLine, line, line)

    def test_settle_and_choose_by_their_form(self):
        desk = desk_of((3, 3, 3), ("ask", 0, 1))
        for word in ("settle", "choose"):
            for line in (word, word + " ", word + " -", word + " 0,1", word + " 0  1", word + " 0 1 ", word + " x",
                         word + " 00",
                         word + " 0 01", word + " 1000000000000", word + " 0-1", word + " ()", word + "\n0"):
                self.refuses(desk, NoLine, line, line)

    def test_lots_by_their_form(self):
        desk = desk_of((9, 3))
        for lot in ("4,3", "3,4", "0-2,3", "0-2,3-4", "0-2,2", "4-3", "3-3", "0-", "-2", "0,", ",0", "0,,2", "0;2",
                    "0-2:-",
                    "00", "0-02", "0-1-2", "1000000000000", "0-1000000000000", "0 2", ""):
            line = "give 0 1 " + lot
            self.refuses(desk, NoLine, line, line)
        self.says(desk, "give 0 1 0-2,4,6-7", "done")

    def test_no_line_ahead_of_all(self):
        desk = desk_of((3, 3, 3), ("fall", 2))
        for line in ("ask 9 x", "give 9 9 4,3", "offer 9 9", "settle 9 9 x", "choose 0 0 x", "fall 2 2", "come 99 0",
                     "where",
                     "holds 9 9", "none 9"):
            self.refuses(desk, NoLine, line, line)

    def test_other_words(self):
        desk = desk_of((3, 3, 3))
        for line in ("", " ", "-", "none", "hear 0", "hand 0", "world", "took", "spots", "greatest", "blockers",
                     "copy", "letter",
                     "done", "yes", "road road", "text text", "ask", "0", "0 ask 1", "ask-0-1", "ask,0,1", "Ask 0 1",
                     "text\n",
                     "say text", "points", "hands", "__class__", "least ", "*", "ask 0 1 ; ask 1 1",
                     "ask 0 1 | ask 1 1"):
            self.refuses(desk, NoLine, line, line)

    def test_things_of_any_kind(self):
        desk = desk_of((3, 3, 3))
        for thing in ODD + DEEPEST + [(), ("text",), ["text"], ("ask", 0, 1), b"text", {"text": 1},
                                      nested(30, "text", lambda part: (part,))]:
            self.refuses(desk, NoLine, thing, thing)

    def test_signs_otherwise(self):
        """Each line with a sign otherwise is another line, or none; nothing else is raised."""
        for line in ("ask 0 2", "give 0 1 0-1", "settle 0 1", "where 3", "offer 0 0 7", "road", "text"):
            for other in signs_otherwise(line) + [line[:at] + sign + line[at + 1:] for at in range(len(line))
                                                  for sign in STRANGE]:
                desk = desk_of((3, 3, 3), *ASKED)
                word, *parts = other.split(" ")
                is_form = FORMS.get(word, -1) == len(parts) or (word in ("settle", "choose") and parts)
                try:
                    desk.say(other)
                except NoLine as refusal:
                    self.is_told(refusal.thing, other)
                except (ValueError, LookupError) as refusal:
                    self.assertTrue(is_form, other)
                    self.assertEqual(type(refusal).__module__, "ridingvotes.errors")
                else:
                    self.assertTrue(is_form, other)

    def test_of_a_text_that_is_none(self):
        text = show_world(led((3, 2)))
        for thing in ODD + DEEPEST + [(), read_world(text), text.split("\n"), text.encode()]:
            self.refused(None, NoText, 0, Desk, thing)
        self.refused(None, NoText, 0, Desk, text.replace("\n", " | "))
        self.refused(None, NoText, 2, Desk, text.replace("holds 0-2", "holds 0-2:"))
        self.refused(None, NoText, 23, Desk, text.replace("holds 0-2", "holds 0-1"))
        self.refused(None, NoText, 22, Desk, text.rpartition("\n")[0])
