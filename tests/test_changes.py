import random
import unittest

from tests.changesamples import changed_by_words, changes_of, fits, some_changes
from tests.samples import ALL_WEBS, BRIDGE, FULL, LONE, OTHER_KINDS, PAIR, STILL, TRIANGLE, TURNING, ends
from tests.spansamples import some_web
from tubewords.changes import can_change, changed_web, draws_in
from tubewords.errors import NoMove, TooMany
from tubewords.webs import is_web, pieces_of

LOOPS = (1, ((0, 0, 2, 4), (0, 0, 3, 8)))
CHAIN = (3, ((0, 1, 2, 3), (1, 2, 6, 5), (1, 1, 3, -3)))


class ChangeCase(unittest.TestCase):
    def leads(self, web, change, expected):
        self.assertIs(can_change(web, change), True)
        self.assertEqual(changed_web(web, (change,)), expected)

    def cannot(self, web, *values):
        for change in values:
            self.assertIs(can_change(web, change), False, change)
            with self.assertRaises(NoMove) as caught:
                changed_web(web, (change,))
            self.assertEqual(caught.exception.number, 0)


class OneChangeTest(ChangeCase):
    def test_turn_over(self):
        self.leads(CHAIN, ("turn over", 0), (3, ((0, 1, -2, 3), (1, 2, 6, 5), (1, 1, 3, -3))))
        self.leads(CHAIN, ("turn over", 1), (3, ((0, 1, 2, -3), (1, 2, -6, 5), (1, 1, -3, 3))))
        self.leads(LONE, ("turn over", 3), LONE)
        self.leads(STILL, ("turn over", 0), STILL)
        self.cannot(CHAIN, ("turn over", 3), ("turn over", -1), ("turn over",), ("turn over", 0, 0), ("turn over", (0,)))

    def test_flip(self):
        self.leads(CHAIN, ("flip", 0), (3, ((0, 1, -2, -3), (1, 2, 6, 5), (1, 1, 3, -3))))
        self.leads(CHAIN, ("flip", 2), (3, ((0, 1, 2, 3), (1, 2, 6, 5), (1, 1, -3, 3))))
        self.cannot(CHAIN, ("flip", 3), ("flip", -1), ("flip",), ("flip", 0, 1))
        self.cannot(STILL, ("flip", 0))

    def test_reverse(self):
        self.leads(CHAIN, ("reverse", 0), (3, ((1, 0, 3, 2), (1, 2, 6, 5), (1, 1, 3, -3))))
        self.leads(CHAIN, ("reverse", 2), (3, ((0, 1, 2, 3), (1, 2, 6, 5), (1, 1, -3, 3))))
        self.cannot(CHAIN, ("reverse", 3), ("reverse", -1), ("reverse",), ("reverse", 0, 1))
        self.cannot(STILL, ("reverse", 0))

    def test_slide(self):
        # The end 6 in room 1 goes over tie 0 backwards: 6 / 3 * 2 in room 0.
        self.leads(CHAIN, ("slide", 1, 0, 0, -1), (3, ((0, 1, 2, 3), (0, 2, 4, 5), (1, 1, 3, -3))))
        self.leads(CHAIN, ("slide", 0, 1, 2, 1), (3, ((0, 1, 2, -3), (1, 2, 6, 5), (1, 1, 3, -3))))
        self.leads(CHAIN, ("slide", 2, 1, 0, -1), (3, ((0, 1, 2, 3), (1, 2, 6, 5), (1, 0, 3, -2))))
        self.leads(CHAIN, ("slide", 1, 0, 2, -1), (3, ((0, 1, 2, 3), (1, 2, -6, 5), (1, 1, 3, -3))))
        self.leads(LOOPS, ("slide", 1, 1, 0, 1), (1, ((0, 0, 2, 4), (0, 0, 3, 16))))
        self.leads(LOOPS, ("slide", 1, 1, 0, -1), (1, ((0, 0, 2, 4), (0, 0, 3, 4))))

    def test_slides_that_cannot_be_done(self):
        # An end that is no multiple, the room of the other end, another room.
        self.cannot(LOOPS, ("slide", 1, 0, 0, 1), ("slide", 1, 0, 0, -1), ("slide", 0, 0, 1, 1), ("slide", 0, 1, 1, -1))
        self.cannot(CHAIN, ("slide", 2, 0, 1, 1), ("slide", 1, 0, 0, 1), ("slide", 1, 1, 0, -1), ("slide", 0, 0, 1, 1))
        # A tie along itself.
        self.cannot((1, ((0, 0, 1, 1),)), ("slide", 0, 0, 0, 1), ("slide", 0, 1, 0, 1), ("slide", 0, 0, 0, -1))
        self.cannot(LOOPS, ("slide", 1, 2, 0, 1), ("slide", 1, -1, 0, 1), ("slide", 1, 1, 0, 0), ("slide", 1, 1, 0, 2),
                    ("slide", 1, 1, 2, 1), ("slide", 2, 1, 0, 1), ("slide", -1, 1, 0, 1), ("slide", 1, 1, -2, 1),
                    ("slide", 1, 1, 0), ("slide", 1, 1, 0, 1, 1), ("slide", 1, None, 0, 1))
        self.cannot((1, ((0, 0, 1, 1), (0, 0, 1, 1))), ("slide", True, 0, 0, 1), ("slide", 1, False, 0, 1),
                    ("slide", 1, True, 0, 1), ("slide", 1, 0, False, 1), ("slide", 1, 0, 0, True))

    def test_ends_that_slide_to_1000_and_beyond(self):
        self.leads((1, ((0, 0, 1, 10), (0, 0, 100, 1))), ("slide", 1, 0, 0, 1), (1, ((0, 0, 1, 10), (0, 0, 1000, 1))))
        self.leads((1, ((0, 0, -1, 10), (0, 0, 100, 1))), ("slide", 1, 0, 0, 1), (1, ((0, 0, -1, 10), (0, 0, -1000, 1))))
        self.cannot((1, ((0, 0, 1, 10), (0, 0, 101, 1))), ("slide", 1, 0, 0, 1))
        self.cannot((1, ((0, 0, -1, 10), (0, 0, 101, 1))), ("slide", 1, 0, 0, 1))
        self.cannot((1, ((0, 0, 1, 1000), (0, 0, 1000, 1))), ("slide", 1, 0, 0, 1))

    def test_draw_in(self):
        web = (3, ((0, 1, 2, 3), (1, 2, 1, 5), (1, 1, 3, -4)))
        self.leads(web, ("draw in", 1, 1), (2, ((0, 1, 2, 15), (1, 1, 15, -20))))
        web = (3, ((0, 1, 2, 3), (2, 1, 5, -1), (1, 1, 3, -4)))
        self.leads(web, ("draw in", 1, -1), (2, ((0, 1, 2, -15), (1, 1, -15, 20))))
        # Rooms and ties behind those that are left out get lesser numbers.
        web = (4, ((2, 3, 7, 1), (0, 1, 1, 2), (3, 0, 5, 6), (0, 0, 2, 3)))
        self.leads(web, ("draw in", 1, 1), (3, ((1, 2, 7, 1), (2, 0, 5, 12), (0, 0, 4, 6))))
        self.leads(web, ("draw in", 0, -1), (3, ((0, 1, 1, 2), (2, 0, 35, 6), (0, 0, 2, 3))))
        self.leads((2, ((0, 1, 1, 1),)), ("draw in", 0, 1), STILL)
        self.leads((2, ((0, 1, 1, 1),)), ("draw in", 0, -1), STILL)
        # Another tie between the two rooms leads from a room to itself then.
        self.leads((2, ((0, 1, 1, 2), (0, 1, 3, 4))), ("draw in", 0, 1), (1, ((0, 0, 6, 4),)))

    def test_draws_in_that_cannot_be_done(self):
        self.cannot((1, ((0, 0, 1, 1),)), ("draw in", 0, 1), ("draw in", 0, -1))
        self.cannot((2, ((0, 1, 2, 1),)), ("draw in", 0, 1))
        self.cannot((2, ((0, 1, 1, -2),)), ("draw in", 0, -1))
        self.cannot((2, ((0, 1, 1, 1),)), ("draw in", 1, 1), ("draw in", -1, 1), ("draw in", 0, 0), ("draw in", 0),
                    ("draw in", 0, 1, 1), ("draw in", False, 1), ("draw in", 0, True), ("draw in", 0, None))

    def test_ends_that_are_drawn_in_to_1000_and_beyond(self):
        self.leads((2, ((0, 1, 1, 10), (0, 0, 100, -100))), ("draw in", 0, 1), (1, ((0, 0, 1000, -1000),)))
        self.cannot((2, ((0, 1, 1, 10), (0, 0, 100, 101))), ("draw in", 0, 1))
        self.cannot((2, ((0, 1, 1, 10), (1, 0, 1000, -101))), ("draw in", 0, 1))
        self.leads((2, ((0, 1, 1, 1), (1, 0, 1000, -1000))), ("draw in", 0, 1), (1, ((0, 0, 1000, -1000),)))

    def test_draw_out(self):
        web = (2, ((0, 1, 4, 6), (1, 1, 3, -9)))
        self.leads(web, ("draw out", 1, 3, ()), (3, web[1] + ((2, 1, 1, 3),)))
        self.leads(web, ("draw out", 1, 3, ((0, 1),)), (3, ((0, 2, 4, 2), (1, 1, 3, -9), (2, 1, 1, 3))))
        self.leads(web, ("draw out", 1, -3, ((0, 1), (1, 0), (1, 1))), (3, ((0, 2, 4, -2), (2, 2, -1, 3), (2, 1, 1, -3))))
        self.leads(web, ("draw out", 0, 4, ((0, 0),)), (3, ((2, 1, 1, 6), (1, 1, 3, -9), (2, 0, 1, 4))))
        self.leads(STILL, ("draw out", 0, 1000, ()), (2, ((1, 0, 1, 1000),)))
        self.leads(STILL, ("draw out", 0, -1000, ()), (2, ((1, 0, 1, -1000),)))

    def test_draws_out_that_cannot_be_done(self):
        web = (2, ((0, 1, 4, 6), (1, 1, 3, -9)))
        # Ends that are no multiples, rooms that are another one, q = 0 or too great.
        self.cannot(web, ("draw out", 1, 2, ((0, 1), (1, 0))), ("draw out", 1, 3, ((0, 0),)), ("draw out", 0, 2, ((0, 1),)),
                    ("draw out", 1, 0, ()), ("draw out", 1, 0, ((0, 1),)), ("draw out", 1, 1001, ()), ("draw out", 1, -1001, ()),
                    ("draw out", 2, 1, ()), ("draw out", -1, 1, ()))
        # Pairs that are out of order, that stand twice, that are none.
        self.cannot(web, ("draw out", 1, 3, ((1, 0), (0, 1))), ("draw out", 1, 3, ((1, 1), (1, 0))),
                    ("draw out", 1, 3, ((1, 0), (1, 0))), ("draw out", 1, 3, ((0, 1), (1, 0), (0, 1))),
                    ("draw out", 1, 3, ((2, 0),)), ("draw out", 1, 3, ((0, 2),)), ("draw out", 1, 3, ((0, -1),)),
                    ("draw out", 1, 3, ((-1, 1),)), ("draw out", 1, 3, ((1,),)), ("draw out", 1, 3, ((1, 0, 0),)),
                    ("draw out", 1, 3, (1, 0)), ("draw out", 1, 3, [(1, 0)]), ("draw out", 1, 3, None), ("draw out", 1, 3),
                    ("draw out", 1, 3, (), ()), ("draw out", 1, 3, ((True, 0),)), ("draw out", 1, 3, ((0, True),)),
                    ("draw out", True, 3, ()), ("draw out", 1, True, ()), ("draw out", 1, "3", ()), ("draw out", 1, 3, ""))

    def test_5_and_6_rooms(self):
        self.leads(LONE, ("draw out", 0, 1, ()), (5, ((4, 0, 1, 1),)))
        self.cannot((5, ()), ("draw out", 0, 1, ()))
        self.leads((5, ()), ("turn over", 4), (5, ()))

    def test_7_and_8_ties(self):
        six, seven = (1, ((0, 0, 2, 2),) * 6), (1, ((0, 0, 2, 2),) * 7)
        self.leads(six, ("draw out", 0, 2, ((5, 1),)), (2, six[1][:5] + ((0, 1, 2, 1), (1, 0, 1, 2))))
        self.cannot(seven, ("draw out", 0, 2, ((5, 1),)), ("draw out", 0, 2, ()))
        self.leads(seven, ("slide", 6, 1, 0, -1), seven)

    def test_values_that_are_no_changes(self):
        for web in (STILL, BRIDGE, TURNING, FULL):
            self.cannot(web, *OTHER_KINDS, 0, "flip", "turn over", ("Flip", 0), ("flip ", 0), ("turn_over", 0), (0, "flip"),
                        (("flip", 0),), ("draw", 0, 1), (None, 0), ("flip", "0"), ("flip", None), ("flip", (0,)),
                        ("flip", True), ("flip", False), ("reverse", False), ("turn over", False), ("turn over", None),
                        ("slide", (), (), (), ()), ("draw in", (), ()), ("draw out", (), (), ()))

    def test_right_forms_with_other_words(self):
        for word in ("Slide", "draw in", "draw out", "flip", "", None, 0, ("slide",)):
            self.cannot(CHAIN, (word, 1, 0, 0, -1))
        for word in ("Draw in", "drawin", "slide", "draw out", "flip", None, 1):
            self.cannot((2, ((0, 1, 1, 1),)), (word, 0, 1))
        for word in ("Draw out", "draw in", "slide", "drawout", None, 1):
            self.cannot(STILL, (word, 0, 1, ()))
        self.cannot(CHAIN, (None, 0), (0, 0), ("turn  over", 0), ("turn over", 0, 1, 1), ("flip", 0, 0), ("reverse", 0, 0))

    def test_numbers_that_would_name_ends(self):
        # `which` is 0 or 1: it counts neither from the end nor on to the ends of the tie.
        self.cannot((2, ((1, 0, 1, 1), (0, 1, 5, 1))), ("slide", 1, -1, 0, 1))
        self.cannot((3, ((2, 0, 1, 1), (0, 1, 2, 7))), ("slide", 1, 2, 0, 1))
        self.cannot((2, ((0, 1, 6, 1),)), ("draw out", 1, 1, ((0, -1),)))
        self.cannot((2, ((0, 1, 1, 6),)), ("draw out", 1, 1, ((0, 2),)))
        self.cannot((2, ((0, 1, 1, 6),)), ("draw out", 1, "3", ((0, 1),)), ("draw out", 1, None, ((0, 1),)),
                    ("draw out", "1", 3, ((0, 1),)), ("draw out", 1, 3, (None,)), ("draw out", 1, (), ((0, 1),)))

    def test_by_words(self):
        chance = random.Random(2201)
        for web in ALL_WEBS + tuple([some_web(chance) for _ in range(60)]):
            changes = changes_of(web)
            for change in changes:
                self.leads(web, change, changed_by_words(web, change))

    def test_which_can_be_done(self):
        # All slides and draws in that have the right kinds of values.
        chance = random.Random(2202)
        for web in ALL_WEBS + tuple([some_web(chance) for _ in range(60)]):
            changes = changes_of(web)
            numbers = range(-1, len(web[1]) + 1)
            for t in numbers:
                for side in (1, -1, 0):
                    self.assertIs(can_change(web, ("draw in", t, side)), ("draw in", t, side) in changes)
                    for e in numbers:
                        for which in (0, 1, 2):
                            slide = ("slide", e, which, t, side)
                            self.assertIs(can_change(web, slide), slide in changes)

    def test_what_stays(self):
        chance = random.Random(2203)
        for web in ALL_WEBS * 3:
            changed = changed_web(web, some_changes(chance, web, chance.randint(1, 6)))
            self.assertTrue(is_web(changed))
            self.assertEqual(changed[0] - len(changed[1]), web[0] - len(web[1]))
            self.assertEqual(len(pieces_of(changed)), len(pieces_of(web)))


class ChangedWebTest(ChangeCase):
    def test_one_after_the_other(self):
        self.assertEqual(changed_web(CHAIN, ()), CHAIN)
        changes = (("turn over", 1), ("reverse", 0), ("slide", 1, 0, 0, 1), ("flip", 1))
        self.assertEqual(changed_web(CHAIN, changes), (3, ((1, 0, -3, 2), (0, 2, -4, -5), (1, 1, -3, 3))))
        chance = random.Random(2204)
        for web in ALL_WEBS * 4:
            changes = some_changes(chance, web, chance.randint(0, 8))
            expected = web
            for change in changes:
                expected = changed_by_words(expected, change)
            self.assertEqual(changed_web(web, changes), expected)

    def test_taken_back(self):
        chance = random.Random(2205)
        for web in ALL_WEBS:
            for change in changes_of(web):
                changed = changed_web(web, (change,))
                kind = change[0]
                if kind in ("turn over", "flip", "reverse"):
                    self.assertEqual(changed_web(web, (change, change)), web)
                elif kind == "slide":
                    self.assertEqual(changed_web(changed, (change[:4] + (-change[4],),)), web)
                elif kind == "draw out":
                    self.assertEqual(changed_web(changed, (("draw in", len(web[1]), 1),)), web)

    def test_draws_in_that_follow_one_another(self):
        web = (4, ((0, 1, 1, 2), (1, 2, 1, 3), (2, 3, -1, 5), (3, 3, 1, 2)))
        self.assertEqual(changed_web(web, (("draw in", 0, 1),)), (3, ((0, 1, 1, 3), (1, 2, -1, 5), (2, 2, 1, 2))))
        self.assertEqual(changed_web(web, (("draw in", 0, 1),) * 2), (2, ((0, 1, -1, 5), (1, 1, 1, 2))))
        self.assertEqual(changed_web(web, (("draw in", 0, 1),) * 3), (1, ((0, 0, 1, 2),)))
        with self.assertRaises(NoMove) as caught:
            changed_web(web, (("draw in", 0, 1),) * 4)
        self.assertEqual(caught.exception.number, 3)
        self.assertEqual(changed_web(web, (("draw in", 2, 1), ("draw in", 1, 1))), (2, ((0, 1, 1, -30), (1, 1, 1, 2))))

    def test_8_and_9_changes(self):
        self.assertEqual(changed_web(TURNING, (("flip", 0),) * 8), TURNING)
        self.assertEqual(changed_web(TURNING, (("flip", 0),) * 7), (1, ((0, 0, -2, -3),)))
        for changes in ((("flip", 0),) * 9, (("flip", 7),) * 9, (None,) * 20):
            with self.assertRaises(TooMany) as caught:
                changed_web(TURNING, changes)
            self.assertEqual(caught.exception.what, "changes")

    def test_the_number_of_the_first_one_that_cannot_be_done(self):
        for number in range(8):
            changes = (("flip", 0),) * number + (("flip", 1),) * (8 - number)
            with self.assertRaises(NoMove) as caught:
                changed_web(TURNING, changes)
            self.assertEqual(caught.exception.number, number)
        for value in OTHER_KINDS:
            with self.assertRaises(NoMove) as caught:
                changed_web(TURNING, (("flip", 0), value, ("flip", 1)))
            self.assertEqual(caught.exception.number, 1)
        # What comes too great in between counts.
        web = (1, ((0, 0, 1, 10), (0, 0, 101, 1)))
        with self.assertRaises(NoMove) as caught:
            changed_web(web, (("flip", 0), ("slide", 1, 0, 0, 1), ("slide", 1, 0, 0, -1)))
        self.assertEqual(caught.exception.number, 1)


class DrawsInTest(unittest.TestCase):
    def test_draws(self):
        self.assertEqual(draws_in(TURNING), ())
        self.assertEqual(draws_in((1, ((0, 0, 1, 1),))), ())
        self.assertEqual(draws_in(LONE), ())
        self.assertEqual(draws_in((2, ((0, 1, 1, 1),))), (("draw in", 0, 1),))
        self.assertEqual(draws_in((2, ((0, 1, 2, 1),))), (("draw in", 0, -1),))
        self.assertEqual(draws_in((2, ((0, 1, 2, 3),))), ())
        web = (4, ((0, 1, 1, 2), (1, 2, 1, 3), (2, 3, -1, 5), (3, 3, 1, 2)))
        self.assertEqual(draws_in(web), (("draw in", 0, 1),) * 3)
        web = (3, ((0, 1, 2, 2), (1, 2, 2, 1), (2, 2, 3, 1)))
        self.assertEqual(draws_in(web), (("draw in", 1, -1),))

    def test_the_tie_and_the_side_that_are_next(self):
        # The least tie goes ahead of the side 1; a tie whose ends would become too great is passed over.
        web = (3, ((0, 1, 2, 1), (1, 2, 1, 1)))
        self.assertEqual(draws_in(web), (("draw in", 0, -1), ("draw in", 0, -1)))
        web = (3, ((0, 1, 1, 100), (0, 0, 11, 1), (1, 2, 2, 1), (2, 2, 1, 7)))
        self.assertEqual(draws_in(web), (("draw in", 2, -1),))
        web = (2, ((0, 1, 1, 100), (1, 0, 1, 2), (0, 0, 11, 2)))
        self.assertEqual(draws_in(web), (("draw in", 1, 1),))
        web = (2, ((0, 1, 1, 100), (0, 1, 11, 1), (0, 0, 1, 2)))
        self.assertEqual(draws_in(web), ())
        web = (2, ((0, 1, 1, -1), (0, 0, 1000, 7), (1, 1, 3, -1000)))
        self.assertEqual(draws_in(web), (("draw in", 0, 1),))

    def test_next_by_words(self):
        chance = random.Random(2206)
        drawn = 0
        webs = list(ALL_WEBS)
        for _ in range(300):
            rooms = chance.randint(2, 5)
            sizes = (1, 1, -1, 2, -3, 10, 40)
            webs.append((rooms, tuple([(chance.randrange(rooms), chance.randrange(rooms), chance.choice(sizes),
                                        chance.choice(sizes)) for _ in range(chance.randint(1, 7))])))
        for web in webs:
            expected, at = [], web
            while True:
                found = [("draw in", t, side) for t in range(len(at[1])) for side in (1, -1)
                         if ends(at, t, side)[0] != ends(at, t, side)[1] and abs(ends(at, t, side)[2]) == 1
                         and fits(changed_by_words(at, ("draw in", t, side)))]
                if not found:
                    break
                expected.append(found[0])
                at = changed_by_words(at, found[0])
            drawn += len(expected)
            self.assertEqual(draws_in(web), tuple(expected))
            self.assertEqual(changed_web(web, draws_in(web)), at)
        self.assertGreater(drawn, 200)
