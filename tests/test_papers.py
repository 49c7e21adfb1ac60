import copy

from ridingvotes.papers import paper, shows_chosen
from tests.plain_world import PlainWorld
from tests.things import DEEPEST, LONG, ODD
from tests.walks import SHARES, Walk
from tests.world_case import ASKED, CHOSEN, WorldCase, all_told, comes, led

# Hand 0's points took the word, then two of them went to hand 1, whose points took it, too; none of hand 2's did.
RIDDEN = ASKED + (("offer", 0, 0, 7), ("come", 0), ("give", 0, 1, ((0, 1),)), ("come", 2))


class Paper(WorldCase):
    def test_none(self):
        for row in (0, 1, 10 ** 11):
            self.assertIsNone(paper(led((3, 3, 3)), row))
            self.assertIsNone(paper(led((3, 3, 3), *ASKED), row))
            self.assertIsNone(paper(led((3, 3, 3), *ASKED, ("offer", 0, 0, 7), ("offer", 0, 1, 8)), row))
        self.assertIsNone(paper(led((3, 3, 3), *CHOSEN), 1))

    def test_by_each_hand(self):
        world = led((3, 3, 3), *CHOSEN)
        self.is_told(paper(world, 0), ("chosen", 0, (1, 0), 7, ((0, ((0, 2),)), (1, ((3, 5),)), (2, ((6, 8),)))))

    def test_hands_without_any_are_left_out(self):
        world = led((3, 3, 3), *ASKED, ("offer", 0, 0, 7), ("come", 1))
        self.is_told(paper(world, 0), ("chosen", 0, (1, 0), 7, ((0, ((0, 2),)), (2, ((6, 8),)))))
        world = led((0, 3, 0), ("ask", 1, 1), ("offer", 1, 2, 7))
        self.is_told(paper(world, 2), ("chosen", 2, (1, 1), 7, ((1, ((0, 2),)),)))

    def test_points_of_two_logs_go_to_the_hand_ahead(self):
        world = led((3, 3, 3), *RIDDEN)
        self.is_told(world.hand(1).book()[11], ((0, (1, 0), 7, ((0, 1), (3, 5))),))
        self.is_told(paper(world, 0), ("chosen", 0, (1, 0), 7, ((0, ((0, 2),)), (1, ((3, 5),)))))

    def test_a_hand_all_of_whose_points_are_of_hands_ahead(self):
        world = led((3, 3, 0), *ASKED, ("offer", 0, 0, 7), ("give", 0, 2, ((0, 2),)), ("come", 1), ("come", 1),
                    ("come", 0))
        self.is_told(world.hand(2).book()[11], ((0, (1, 0), 7, ((0, 2),)),))
        self.is_told(paper(world, 0), ("chosen", 0, (1, 0), 7, ((0, ((0, 2),)), (1, ((3, 5),)))))

    def test_by_the_least_ballot(self):
        world = led((3, 3, 3), *ASKED, ("offer", 0, 0, 7), ("come", 0), ("lose", 0), ("lose", 0), ("ask", 1, 2),
                    *comes(4), ("offer", 1, 0, 5), *comes(2))
        self.is_told(len(world.took()), 2)
        self.is_told(paper(world, 0)[:4], ("chosen", 0, (1, 0), 7))
        world = led((2, 2, 1), ("ask", 0, 1), *comes(4), ("offer", 0, 0, 7), ("lose", 0), ("lose", 0), ("ask", 2, 2),
                    *comes(4), ("offer", 2, 0, 5), ("come", 0))
        self.is_told(paper(world, 0), ("chosen", 0, (2, 2), 7, ((0, ((0, 1),)), (2, ((4, 4),)))))

    def test_of_great_lots(self):
        world = led((LONG,) * 3, *CHOSEN)
        self.is_told(paper(world, 0), ("chosen", 0, (1, 0), 7, (
            (0, ((0, LONG - 1),)), (1, ((LONG, 2 * LONG - 1),)), (2, ((2 * LONG, 3 * LONG - 1),)))))

    def test_by_name_and_nothing_is_changed(self):
        world = led((3, 3, 3), *RIDDEN)
        before = repr(all_told(world))
        self.is_told(paper(row=0, world=world), paper(world, 0))
        self.assertEqual(repr(all_told(world)), before)

    def test_in_histories(self):
        many = 0
        for seed in range(30):
            walk = Walk(seed)
            plain = PlainWorld(SHARES[seed % len(SHARES)])
            for _ in range(120):
                deed, (kind, _) = walk.step()
                if kind == "told":
                    plain.do(deed)
            for row in range(6):
                told = paper(walk.world, row)
                self.is_told(told, plain.paper(row))
                if told is not None:
                    many += 1
                    self.assertIs(shows_chosen(walk.world, told), True)
                    self.assertEqual(dict(walk.world.chosen())[row], told[3])
                else:
                    self.assertNotIn(row, dict(walk.world.chosen()))
        self.assertGreater(many, 20)


class ShowsChosen(WorldCase):
    def shows(self, world, thing, told):
        before, was = repr(thing), repr(all_told(world))
        self.assertIs(shows_chosen(world, thing), told)
        self.assertEqual(repr(thing), before)
        self.assertEqual(repr(all_told(world)), was)

    def test_what_paper_tells(self):
        for deeds in (CHOSEN, RIDDEN):
            world = led((3, 3, 3), *deeds)
            self.shows(world, paper(world, 0), True)
            self.assertIs(shows_chosen(thing=paper(world, 0), world=world), True)

    def test_elder_papers(self):
        world = led((3, 3, 3), *ASKED, ("offer", 0, 0, 7), ("come", 0))
        elder = paper(world, 0)
        for deed in comes(5) + (("ask", 2, 3),) + comes(4) + (("offer", 2, 1, 8),) + comes(4) + (("fall", 0),):
            world.do(deed)
            self.shows(world, elder, True)
        self.assertNotEqual(paper(world, 0), elder)

    def test_others_that_are_as_good(self):
        world = led((3, 3, 3), *RIDDEN)
        for parts in (((0, ((2, 2),)), (1, ((0, 1), (3, 5)))), ((0, ((0, 0), (2, 2))), (1, ((1, 1), (4, 5)))),
                      ((1, ((0, 1), (3, 5))),), ((0, ((0, 2),)), (1, ((4, 5),)))):
            self.shows(world, ("chosen", 0, (1, 0), 7, parts), True)

    def test_by_a_greater_ballot(self):
        world = led((3, 3, 3), *ASKED, ("offer", 0, 0, 7), ("come", 0), ("lose", 0), ("lose", 0), ("ask", 1, 2),
                    *comes(4), ("offer", 1, 0, 5), *comes(2))
        self.shows(world, ("chosen", 0, (2, 1), 7, ((0, ((0, 2),)), (1, ((3, 5),)))), True)
        self.shows(world, ("chosen", 0, (1, 0), 7, ((0, ((0, 2),)), (1, ((3, 5),)))), True)
        self.shows(world, ("chosen", 0, (1, 0), 7, ((0, ((0, 2),)), (2, ((6, 8),)))), False)
        self.shows(world, ("chosen", 0, (2, 1), 7, ((0, ((0, 2),)), (2, ((6, 8),)))), True)

    def test_with_one_thing_otherwise(self):
        world = led((3, 3, 3), *RIDDEN)
        parts = ((0, ((0, 2),)), (1, ((3, 5),)))
        self.shows(world, ("chosen", 0, (1, 0), 7, parts), True)
        for thing in (("chosen", 1, (1, 0), 7, parts), ("chosen", 0, (1, 1), 7, parts), ("chosen", 0, (2, 0), 7, parts),
                      ("chosen", 0, (0, 0), 7, parts), ("chosen", 0, (1, 0), 8, parts), ("chosen", 0, (1, 0), 7, ()),
                      ("told", 0, (1, 0), 7, parts), ("", 0, (1, 0), 7, parts), ("chosen", 0, (1, 0), 7),
                      ("chosen", 0, (1, 0), 7, parts, ()), ("chosen", 0, (1, 0), parts), ()):
            self.shows(world, thing, False)

    def test_with_other_parts(self):
        world = led((3, 3, 3), *RIDDEN)
        for parts in (
                ((1, ((3, 5),)), (0, ((0, 2),))),
                ((0, ((0, 1),)), (0, ((2, 2),)), (1, ((3, 5),))), ((1, ((0, 1),)), (1, ((3, 5),))),
                ((0, ((0, 2),)), (1, ((1, 1), (3, 5)))), ((0, ((0, 2),)), (1, ((0, 1), (3, 5)))),
                ((0, ((0, 3),)), (1, ((4, 5),))), ((0, ((0, 2),)), (1, ((2, 5),))), ((0, ((0, 2),)), (1, ((3, 6),))),
                ((0, ((0, 2),)), (2, ((3, 5),))), ((0, ((0, 2),)), (1, ((3, 5),)), (2, ((6, 6),))),
                ((0, ((0, 2),)), (1, ((3, 5),)), (2, ())), ((0, ()), (1, ((0, 1), (3, 5)))),
                ((0, ((0, 2),)), (1, ((3, 3),))), ((0, ((0, 2),)),), ((1, ((3, 5),)),), (),
                ((0, ((0, 2),)), (3, ((3, 5),))), ((-1, ((3, 5),)), (0, ((0, 2),))), ((0, ((0, 2),)), (9, ((3, 5),))),
                ((0, ((0, 1), (2, 2))), (1, ((3, 5),))), ((0, ((2, 0),)), (1, ((3, 5),))),
                ((0, ((0, 2),), 0), (1, ((3, 5),))), ((0,), (1, ((3, 5),)))):
            self.shows(world, ("chosen", 0, (1, 0), 7, parts), False)

    def test_just_half(self):
        world = led((4, 2, 2), *ASKED, ("offer", 0, 0, 7), ("come", 0))
        self.shows(world, ("chosen", 0, (1, 0), 7, ((0, ((0, 3),)),)), False)
        self.shows(world, ("chosen", 0, (1, 0), 7, ((0, ((0, 3),)), (1, ((5, 5),)))), True)
        self.shows(world, ("chosen", 0, (1, 0), 7, ((0, ((0, 1),)), (1, ((4, 5),)))), False)
        world = led((2 * LONG, LONG, LONG), *ASKED, ("offer", 0, 0, 7), ("come", 0))
        self.shows(world, ("chosen", 0, (1, 0), 7, ((0, ((0, 2 * LONG - 1),)),)), False)
        self.shows(world, ("chosen", 0, (1, 0), 7, ((0, ((0, 2 * LONG - 1),)), (1, ((2 * LONG, 2 * LONG),)))), True)

    def test_truths_lists_and_texts(self):
        world = led((2, 0, 0), ("ask", 0, 1), ("offer", 0, 1, 1))
        self.shows(world, ("chosen", 1, (1, 0), 1, ((0, ((0, 1),)),)), True)
        for thing in (
                ["chosen", 1, (1, 0), 1, ((0, ((0, 1),)),)], ("chosen", True, (1, 0), 1, ((0, ((0, 1),)),)),
                ("chosen", 1, (True, 0), 1, ((0, ((0, 1),)),)), ("chosen", 1, (1, False), 1, ((0, ((0, 1),)),)),
                ("chosen", 1, [1, 0], 1, ((0, ((0, 1),)),)), ("chosen", 1, (1, 0), True, ((0, ((0, 1),)),)),
                ("chosen", 1, (1, 0), 1, [(0, ((0, 1),))]), ("chosen", 1, (1, 0), 1, ([0, ((0, 1),)],)),
                ("chosen", 1, (1, 0), 1, ((False, ((0, 1),)),)), ("chosen", 1, (1, 0), 1, ((0, [(0, 1)]),)),
                ("chosen", 1, (1, 0), 1, ((0, ([0, 1],)),)), ("chosen", 1, (1, 0), 1, ((0, ((False, 1),)),)),
                ("chosen", 1, (1, 0), 1, ((0, ((0, True),)),)), ("chosen", "1", (1, 0), 1, ((0, ((0, 1),)),)),
                ("chosen", 1, (1, 0), "1", ((0, ((0, 1),)),)), ("chosen", 1, "10", 1, ((0, ((0, 1),)),)),
                ("chosen", 1, (1, 0), 1, {0: ((0, 1),)}), ("chosen", 1, (1, 0), 1, (("0", ((0, 1),)),)), "chosen"):
            self.shows(world, thing, False)

    def test_things_of_any_kind(self):
        world = led((3, 3, 3), *RIDDEN)
        told = paper(world, 0)
        for thing in ODD + DEEPEST + [(), world.took()]:
            self.shows(world, thing, False)
            for at in range(5):
                if thing != told[at] or isinstance(thing, bool):
                    self.shows(world, told[:at] + (thing,) + told[at + 1:], False)
            self.shows(world, told[:4] + ((thing,),), False)
            self.shows(world, told[:4] + (told[4] + (thing,),), False)
            self.shows(world, told[:4] + (((0, thing),) + told[4][1:],), False)
            if thing != 0 or isinstance(thing, bool):
                self.shows(world, told[:4] + (((thing, told[4][0][1]),) + told[4][1:],), False)

    def test_where_nothing_is_chosen(self):
        world = led((3, 3, 3), *ASKED, ("offer", 0, 0, 7))
        self.shows(world, None, False)
        self.shows(world, ("chosen", 0, (1, 0), 7, ((0, ((0, 2),)),)), False)
        self.shows(led((3, 3, 3)), ("chosen", 0, (1, 0), 7, ((0, ((0, 8),)),)), False)
        self.assertEqual(copy.deepcopy(paper(world, 0)), None)
