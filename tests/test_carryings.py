import random
import unittest

from tests.samples import (
    ALL_WEBS, BRIDGE, DOUBLING, EVEN, FULL, KLEIN, MOST, OTHER_KINDS, PAIR, STILL, TRIANGLE, TURNING, WEBS, back,
    closed_in, joined, last_room, some_walk, spoilt, walks_in)
from tests.test_turnrules import BOUND, FIVE_PRIMES, FOUR_PRIMES, HUNDRED, MANY_AND_GREAT, SQUARES, TOO_GREAT, TOO_MANY
from tubewords.carryings import are_carried, carrying_paper, shows_carrying
from tubewords.errors import NotClosed, TooGreat, TooMany
from tubewords.openings import opening_answers
from tubewords.turned import trip_and_lap
from tubewords.turnrules import least_turn, told_rules
from tubewords.webs import piece_of

HALVES = (3, ((0, 1, 2, 3), (2, 2, 5, 6)))
CROSSED = (0, 0, ((0, 1, 0),))


class PaperCase(unittest.TestCase):
    def shown(self, web, first, second, answer, kind):
        """Checks that the walks have this answer and a paper of this kind, which shows this answer alone."""
        self.assertIs(are_carried(web, first, second), answer)
        told = carrying_paper(web, first, second)
        self.assertIsInstance(told, tuple)
        self.assertEqual(len(told), 2)
        self.assertIs(told[0], answer)
        self.assertEqual(told[1][:len(kind)], kind)
        self.right(web, first, second, answer, told[1])
        return told[1]

    def right(self, web, first, second, answer, paper):
        self.assertIs(shows_carrying(web, first, second, answer, paper), True, (web, first, second, paper))
        self.assertIs(shows_carrying(web, first, second, not answer, paper), False)

    def wrong(self, web, first, second, paper):
        for answer in (True, False):
            self.assertIs(shows_carrying(web, first, second, answer, paper), False, (web, first, second, paper))


class GoingTest(PaperCase):
    def test_walks_that_go_on(self):
        g, h = (0, 0, ((0, 1, 1), (0, 1, 0))), (0, 0, ((0, 1, 0), (0, 1, 1)))
        self.shown(EVEN, g, h, True, ("on", 1))
        self.shown(DOUBLING, CROSSED, (0, 0, ((0, 1, 5),)), True, ("on", 0, -5))
        self.shown(EVEN, CROSSED, (0, 0, ((0, 1, 1),)), False, ("unlike", "answers"))
        self.shown(TURNING, CROSSED, (0, 0, ((0, -1, 0),)), False, ("unlike", "answers"))

    def test_which_j_fit(self):
        for j in range(-9, 10):
            one = ("on", 0, j)
            self.assertIs(shows_carrying(DOUBLING, CROSSED, (0, 0, ((0, 1, 5),)), True, one), j == -5)
        g, h = (0, 0, ((0, 1, 1), (0, 1, 0))), (0, 0, ((0, 1, 0), (0, 1, 1)))
        self.assertEqual(opening_answers(EVEN, g, h), (None, ("row", 0, 2)))
        for j in list(range(-9, 10)) + [10 ** 400, 10 ** 400 + 1, -10 ** 400]:
            self.assertIs(shows_carrying(EVEN, g, h, True, ("on", 1, j)), j % 2 == 0)
            self.assertIs(shows_carrying(EVEN, g, h, False, ("on", 1, j)), False)
            self.wrong(EVEN, g, h, ("on", 0, j))

    def test_rows_that_begin_elsewhere(self):
        web = (1, ((0, 0, 2, 2), (0, 0, 3, 3)))
        g, h = (0, 0, ((0, 1, 1), (1, 1, 0))), (0, 0, ((0, 1, 0), (1, 1, 1)))
        self.assertEqual(opening_answers(web, g, h)[0], ("row", 4, 6))
        for j in range(-20, 21):
            self.assertIs(shows_carrying(web, g, h, True, ("on", 0, j)), j % 6 == 4)

    def test_walks_that_stay_have_no_openings(self):
        for g, h in ((CROSSED, (0, 7, ())), ((0, 7, ()), CROSSED), ((0, 0, ()), (0, 0, ()))):
            self.wrong(TURNING, g, h, ("on", 0, 0))

    def test_numbers_of_openings(self):
        g, h = (0, 0, ((0, 1, 1), (0, 1, 0))), (0, 0, ((0, 1, 0), (0, 1, 1)))
        self.right(EVEN, g, h, True, ("on", 1, 0))
        for r in OTHER_KINDS + (0, -1, -2, 2, 3, 10 ** 30, "1", (1,)):
            self.wrong(EVEN, g, h, ("on", r, 0))
        for j in OTHER_KINDS + ("0", (0,)):
            self.wrong(EVEN, g, h, ("on", 1, j))

    def test_the_lap_tells_how_many_openings_there_are(self):
        g = (0, 1, ((0, 1, 0), (0, 1, 0), (0, -1, 0)))
        self.assertEqual(len(trip_and_lap(TURNING, g)[1][2]), 1)
        self.wrong(TURNING, g, g, ("on", 1, 0))
        self.wrong(TURNING, g, g, ("on", 2, 0))
        self.shown(TURNING, g, g, True, ("on", 0))

    def test_answers_must_all_be_none(self):
        g, h = (0, 0, ((0, 1, 1), (0, 1, 0))), (0, 0, ((0, 1, 0), (0, 1, 1)))
        self.wrong(EVEN, g, h, ("unlike", "answers"))
        for reason in ("pieces", "going", "zero", "rests"):
            self.wrong(EVEN, g, h, ("unlike", reason))
            self.wrong(EVEN, CROSSED, (0, 0, ((0, 1, 1),)), ("unlike", reason))
        self.wrong(EVEN, CROSSED, (0, 0, ((0, 1, 1),)), ("rules", ()))
        self.wrong(EVEN, CROSSED, CROSSED, ("plan", ((0, ()),)))

    def test_many_walks(self):
        chance = random.Random(361)
        for web in WEBS:
            for g in closed_in(web, 362, 25, 6):
                v = some_walk(chance, web, chance.randint(0, 3), g[0], 3)
                h = joined(back(web, v), g, v)
                self.assertIs(are_carried(web, g, h), True)
                answer, paper = carrying_paper(web, g, h)
                self.right(web, g, h, True, paper)
                self.assertEqual(paper[0], "on" if trip_and_lap(web, g)[1][2] else "plan")

    def test_many_unlike_walks(self):
        kinds = {}
        for web in ALL_WEBS + (HALVES,):
            walks = closed_in(web, 363, 16, 4)
            for g in walks:
                for h in walks:
                    answer, paper = carrying_paper(web, g, h)
                    self.assertIs(are_carried(web, g, h), answer)
                    self.right(web, g, h, answer, paper)
                    kind = paper[:2] if paper[0] == "unlike" else paper[:1]
                    kinds[kind] = kinds.get(kind, 0) + 1
        self.assertEqual(len(kinds), 8)


class StayingTest(PaperCase):
    def test_turns(self):
        self.shown(TURNING, (0, 9, ()), (0, 4, ()), True, ("plan",))
        self.shown(TURNING, (0, 4, ()), (0, 9, ()), True, ("plan",))
        self.shown(TURNING, (0, 4, ()), (0, -4, ()), False, ("rules",))
        self.shown(KLEIN, (0, 4, ()), (0, -4, ()), True, ("plan",))
        self.shown(DOUBLING, (0, 2 ** 199, ()), (0, 1, ()), True, ("plan",))
        self.shown(DOUBLING, (0, -3 * 2 ** 190, ()), (0, -3, ()), True, ("plan",))
        self.shown(SQUARES, (0, 2, ()), (0, 3, ()), False, ("rules",))
        self.shown(BRIDGE, (0, 2, ()), (1, 3, ()), True, ("plan",))
        self.shown(BRIDGE, (0, 1, ()), (1, 1, ()), False, ("rules",))
        self.shown(TURNING, (0, 1, ()), (0, 2, ()), False, ("rules",))
        self.shown(TURNING, (0, -1, ()), (0, 1, ()), False, ("rules",))

    def test_laps_are_looked_at(self):
        walk = (0, 1, ((0, 1, 8), (0, -1, -1)))
        self.assertEqual(trip_and_lap(TURNING, walk), ((0, 1, ((0, 1, 0),)), (0, 8, ())))
        self.shown(TURNING, walk, (0, 12, ()), True, ("plan",))
        self.shown(TURNING, (0, 27, ()), walk, True, ("plan",))
        self.shown(TURNING, (0, 3, ()), walk, False, ("rules",))

    def test_0_turns(self):
        self.shown(TRIANGLE, (0, 0, ()), (2, 0, ()), True, ("plan",))
        self.shown(STILL, (0, 0, ()), (0, 0, ()), True, ("plan",))
        self.shown(BRIDGE, (0, 0, ()), (1, 1, ((0, -1, 0), (0, 1, -1))), True, ("plan",))
        for web in (FIVE_PRIMES, TOO_MANY, TOO_GREAT):
            self.shown(web, (0, 0, ()), (1, 0, ()), True, ("plan",))

    def test_unlike_zero(self):
        for g, h in (((0, 0, ()), (0, 5, ())), ((0, 5, ()), (0, 0, ())), ((1, MOST, ()), (0, 0, ()))):
            self.shown(BRIDGE, g, h, False, ("unlike", "zero"))
            self.wrong(BRIDGE, g, h, ("rules", told_rules(BRIDGE, 0)))
        self.wrong(BRIDGE, (0, 0, ()), (0, 0, ()), ("unlike", "zero"))
        self.wrong(BRIDGE, (0, 5, ()), (0, 6, ()), ("unlike", "zero"))
        # The paper for unlike pieces would be right as well.
        self.right(HALVES, (0, 0, ()), (2, 5, ()), False, ("unlike", "zero"))
        self.right(HALVES, (0, 0, ()), (2, 5, ()), False, ("unlike", "pieces"))
        self.wrong(TURNING, (0, 0, ()), CROSSED, ("unlike", "zero"))
        for g, h in (((0, 5, ()), CROSSED), (CROSSED, (0, 5, ())), ((0, 1, ((0, 1, 0),)), (0, 0, ())),
                     ((0, 0, ()), (0, 1, ((0, 1, 0),))), ((0, 1, ((0, 1, 0),)), (0, 0, ((0, -1, 0),)))):
            self.wrong(TURNING, g, h, ("unlike", "zero"))

    def test_unlike_rests(self):
        for g, h in (((0, 5, ()), (0, 7, ())), ((0, 6, ()), (1, 30, ())), ((0, 5, ()), (1, -25, ()))):
            self.shown(BRIDGE, g, h, False, ("unlike", "rests"))
        self.shown(STILL, (0, MOST, ()), (0, MOST - 1, ()), False, ("unlike", "rests"))
        self.wrong(BRIDGE, (0, 6, ()), (0, 2, ()), ("unlike", "rests"))
        self.wrong(BRIDGE, (0, 0, ()), (0, 5, ()), ("unlike", "rests"))
        self.wrong(BRIDGE, (0, 0, ()), (0, 0, ()), ("unlike", "rests"))
        self.wrong(HALVES, (0, 5, ()), (2, 7, ()), ("unlike", "rests"))
        self.wrong(TURNING, CROSSED, (0, 5, ()), ("unlike", "rests"))
        self.wrong(TURNING, (0, 5, ()), CROSSED, ("unlike", "rests"))
        for walk in ((0, 1, ((0, 1, 0),)), (0, 1, ((0, 1, 6),))):
            self.wrong(TURNING, (0, 5, ()), walk, ("unlike", "rests"))
            self.wrong(TURNING, walk, (0, 5, ()), ("unlike", "rests"))

    def test_unlike_pieces(self):
        for g, h in (((0, 1, ()), (2, 1, ())), ((2, 0, ()), (1, 0, ())), ((2, 0, ((1, 1, 0),)), (0, 0, ())),
                     ((2, 0, ((1, 1, 0),)), (1, 5, ()))):
            self.shown(HALVES, g, h, False, ("unlike", "pieces"))
        self.wrong(HALVES, (0, 1, ()), (1, 1, ()), ("unlike", "pieces"))
        self.wrong(HALVES, (0, 1, ()), (0, 2, ()), ("unlike", "pieces"))

    def test_unlike_going(self):
        for g, h in ((CROSSED, (0, 7, ())), ((0, 0, ()), CROSSED)):
            self.shown(TURNING, g, h, False, ("unlike", "going"))
        self.right(HALVES, (2, 0, ((1, 1, 0),)), (0, 3, ()), False, ("unlike", "going"))
        self.wrong(TURNING, CROSSED, (0, 0, ((0, -1, 0),)), ("unlike", "going"))
        self.wrong(TURNING, (0, 7, ()), (0, 5, ()), ("unlike", "going"))
        self.wrong(TURNING, CROSSED, (0, 7, ()), ("unlike", "answers"))
        self.wrong(TURNING, (0, 7, ()), CROSSED, ("unlike", "answers"))
        self.wrong(TURNING, (0, 7, ()), (0, 5, ()), ("unlike", "answers"))

    def test_words(self):
        for word in OTHER_KINDS + ("rests ", "Rests", "equal", "plan", 0, ("rests",)):
            self.wrong(BRIDGE, (0, 5, ()), (0, 7, ()), ("unlike", word))


class PlanPapersTest(PaperCase):
    ON, GO_BACK = ("cross", 0, 1), ("cross", 0, -1)

    def test_plans_that_carry(self):
        for plan in (((0, (self.GO_BACK, self.GO_BACK)),), ((0, (self.GO_BACK,)), (0, (("line", 0, 1, 2),))),
                     ((0, (self.ON,)), (0, (("line", 0, -1, 2),))), ((0, (self.GO_BACK, self.GO_BACK, self.ON, self.GO_BACK)),)):
            self.right(TURNING, (0, 9, ()), (0, 4, ()), True, ("plan", plan))
            self.right(TURNING, (0, -45, ()), (0, -20, ()), True, ("plan", plan))
            self.wrong(TURNING, (0, 4, ()), (0, 9, ()), ("plan", plan))

    def test_plans_that_do_not_carry(self):
        for plan in (((0, ()),), ((0, (self.ON,)),), ((0, (self.GO_BACK,)),), ((0, (self.GO_BACK,) * 3),),
                     ((0, (self.GO_BACK, self.GO_BACK)), (0, ())), ((0, (self.ON, self.GO_BACK, self.GO_BACK, self.GO_BACK)),)):
            self.wrong(TURNING, (0, 9, ()), (0, 4, ()), ("plan", plan))
        self.wrong(TURNING, (0, 9, ()), (0, 9, ()), ("plan", ((0, (self.ON, self.GO_BACK)),)))
        self.wrong(TURNING, (0, 3, ()), (0, 3, ()), ("plan", ((0, (self.ON,)),)))
        self.wrong(TURNING, (0, 9, ()), (0, -4, ()), ("plan", ((0, (self.GO_BACK, self.GO_BACK)),)))

    def test_rooms_of_plans(self):
        self.right(BRIDGE, (0, 2, ()), (1, 3, ()), True, ("plan", ((0, (self.ON,)),)))
        web = (2, ((0, 1, 1, 1),))
        self.right(web, (0, 2, ()), (0, 2, ()), True, ("plan", ((0, ()),)))
        for plan in (((1, ()),), ((0, (self.ON,)),), ((1, (self.GO_BACK,)),)):
            self.wrong(web, (0, 2, ()), (0, 2, ()), ("plan", plan))
        self.wrong(web, (0, 0, ()), (0, 0, ()), ("plan", ((1, ()),)))
        self.right(web, (0, 0, ()), (1, 0, ()), True, ("plan", ((0, (self.ON, self.GO_BACK, self.ON)),)))

    def test_walks_that_go_on_have_no_plans(self):
        self.wrong(TURNING, CROSSED, CROSSED, ("plan", ((0, ()),)))
        self.wrong(TURNING, (0, 0, ()), CROSSED, ("plan", ((0, ()),)))
        self.wrong(TURNING, CROSSED, (0, 0, ()), ("plan", ((0, ()),)))

    def test_values_that_are_no_plans(self):
        for value in OTHER_KINDS + (((0, (("cross", 1, 1),)),), ((1, ()),), ((0, ()),) * 501, ((False, ()),)):
            self.wrong(TURNING, (0, 4, ()), (0, 4, ()), ("plan", value))

    def test_many_turns(self):
        chance = random.Random(371)
        answers = {True: 0, False: 0}
        for web in WEBS + (SQUARES, FOUR_PRIMES, HUNDRED, HALVES):
            for _ in range(12):
                room = chance.randrange(web[0])
                turns = chance.choice((1, -1)) * chance.choice((1, 7, 11))
                for p in (2, 3, 5):
                    turns *= p ** chance.randint(0, 30)
                other = least_turn(web, room, turns)
                if abs(other[1]) <= BOUND:
                    plan = self.shown(web, (room, turns, ()), (other[0], other[1], ()), True, ("plan",))[1]
                    self.assertLessEqual(len(plan), 500)
                    self.shown(web, (other[0], other[1], ()), (room, turns, ()), True, ("plan",))
                second = (chance.choice(piece_of(web, room)), turns * 2 // 3 if turns % 3 == 0 else turns * 2, ())
                answer, paper = carrying_paper(web, (room, turns, ()), second)
                answers[answer] += 1
                self.right(web, (room, turns, ()), second, answer, paper)
        self.assertGreater(min(answers.values()), 20)

    def test_turns_that_are_carried_into_their_opposite(self):
        web = (3, ((0, 0, 2, -2), (0, 1, 5, 3), (1, 2, 7, 2)))
        for room, least in ((0, 2), (1, 6), (2, 12)):
            for turns in range(1, 30):
                if turns % least == 0:
                    self.shown(web, (room, turns, ()), (room, -turns, ()), True, ("plan",))
                    self.shown(web, (room, -turns, ()), (room, turns, ()), True, ("plan",))
                else:
                    self.shown(web, (room, turns, ()), (room, -turns, ()), False, ("rules",))
        self.shown(web, (0, 70, ()), (2, 12, ()), True, ("plan",))
        self.shown(web, (0, 70, ()), (2, -12, ()), True, ("plan",))

    def test_many_entries(self):
        # All 7s become 5s, and then 3s, and then 2s, in the rooms one after the other.
        web = (3, ((0, 1, 7, 5), (1, 2, 7, 5), (2, 0, 7, 5), (0, 1, 5, 3), (1, 2, 5, 3), (2, 0, 5, 3), (0, 1, 3, 2)))
        turns = 7 ** 70
        least = least_turn(web, 0, turns)
        self.shown(web, (0, turns, ()), (least[0], least[1], ()), True, ("plan",))
        least = least_turn(web, 2, -turns)
        self.shown(web, (2, -turns, ()), (least[0], least[1], ()), True, ("plan",))


class RulesPapersTest(PaperCase):
    def test_other_rules(self):
        g, h = (0, 2, ()), (0, 3, ())
        self.right(SQUARES, g, h, False, ("rules", ((0, 4, 0, 2), (0, 9, 0, 3))))
        self.right(SQUARES, g, h, False, ("rules", ((0, 9, 0, 3), (0, 4, 0, 2))))
        self.right(SQUARES, g, h, False, ("rules", ((0, 2, 0, 1), (0, 9, 0, 3))))
        self.wrong(SQUARES, g, h, ("rules", ((0, 2, 0, 1), (0, 3, 0, 1))))
        self.wrong(SQUARES, g, h, ("rules", ((0, 4, 0, 2),)))
        self.wrong(SQUARES, g, h, ("rules", ()))

    def test_rules_for_great_turns(self):
        self.right(TURNING, (0, BOUND, ()), (0, -BOUND, ()), False, ("rules", ((0, 3, 0, 2),)))
        self.right(TURNING, (0, 3 ** 500, ()), (0, -3 ** 500, ()), False, ("rules", ((0, 3, 0, 2),)))
        self.wrong(TURNING, (0, 3 ** 500, ()), (0, 2 ** 500, ()), ("rules", ((0, 3, 0, 2),)))

    def test_where_rules_show_nothing(self):
        rules = told_rules(BRIDGE, 0)
        self.wrong(BRIDGE, (0, 2, ()), (1, 3, ()), ("rules", rules))
        self.wrong(BRIDGE, (0, 0, ()), (1, 3, ()), ("rules", rules))
        self.wrong(BRIDGE, (0, 2, ()), (1, 0, ()), ("rules", rules))
        self.wrong(HALVES, (0, 2, ()), (2, 5, ()), ("rules", told_rules(HALVES, 0)))
        self.wrong(TURNING, CROSSED, (0, 3, ()), ("rules", told_rules(TURNING, 0)))
        for walk in ((0, 1, ((0, 1, 0),)), (0, 1, ((0, 1, 6),))):
            self.wrong(TURNING, walk, (0, 4, ()), ("rules", told_rules(TURNING, 0)))
            self.wrong(TURNING, (0, 4, ()), walk, ("rules", told_rules(TURNING, 0)))
        self.wrong(TURNING, CROSSED, (0, 0, ((0, -1, 0),)), ("rules", told_rules(TURNING, 0)))
        # Unlike rests stay unlike, so rules show them as well.
        self.right(BRIDGE, (0, 5, ()), (0, 7, ()), False, ("rules", rules))

    def test_200_and_201_rules(self):
        self.right(TURNING, (0, 4, ()), (0, 2, ()), False, ("rules", ((0, 3, 0, 2),) * 200))
        self.wrong(TURNING, (0, 4, ()), (0, 2, ()), ("rules", ((0, 3, 0, 2),) * 201))

    def test_other_kinds(self):
        for value in OTHER_KINDS:
            if value != ():
                self.wrong(STILL, (0, 4, ()), (0, 2, ()), ("rules", value))
        for value in OTHER_KINDS + (0, ("on",), ("plan",), ("unlike",), ("rules",), ("on", 0), ("on", 0, 0, 0),
                                    ("plan", ((0, ()),), 0), ("rules", (), ()), ("unlike", "rests", 0), "on"):
            self.wrong(STILL, (0, 4, ()), (0, 4, ()), value)
            self.wrong(STILL, (0, 4, ()), (0, 2, ()), value)
            self.wrong(TURNING, CROSSED, CROSSED, value)

    def test_spoilt_papers(self):
        for web, g, h, answer, paper in (
                (DOUBLING, CROSSED, (0, 0, ((0, 1, 5),)), True, ("on", 0, -5)),
                (SQUARES, (0, 2, ()), (0, 3, ()), False, ("rules", ((0, 4, 0, 2), (0, 9, 0, 3)))),
                (BRIDGE, (0, 2, ()), (1, 3, ()), True, ("plan", ((0, (("cross", 0, 1),)),))),
                (BRIDGE, (0, 5, ()), (0, 7, ()), False, ("unlike", "rests"))):
            self.right(web, g, h, answer, paper)
            for path, value in spoilt(paper):
                if paper[0] in ("plan", "rules") and path == (1,) and value[1] == paper[1] + paper[1][-1:]:
                    self.right(web, g, h, answer, value)
                    continue
                self.wrong(web, g, h, value)

    def test_answers_of_other_kinds(self):
        self.assertIs(shows_carrying(TURNING, (0, 9, ()), (0, 4, ()), True, ("unlike", "rests")), False)
        self.assertIs(shows_carrying(TURNING, (0, 9, ()), (0, 5, ()), True, ("unlike", "rests")), False)


class RaisesTest(unittest.TestCase):
    def raised(self, web, first, second, error):
        caught_all = []
        for function in (are_carried, carrying_paper):
            with self.assertRaises(error) as caught:
                function(web, first, second)
            caught_all.append(caught.exception)
        return caught_all

    def test_walks_that_are_not_closed(self):
        one, two = (0, 1, ((0, 1, 2),)), (1, 3, ((0, -1, 2),))
        for first, second, walk in ((one, two, one), (two, one, two), (one, (0, 5, ()), one), ((0, 5, ()), two, two)):
            for error in self.raised(HALVES, first, second, NotClosed):
                self.assertEqual(error.walk, walk)
            for answer in (True, False):
                with self.assertRaises(NotClosed) as caught:
                    shows_carrying(HALVES, first, second, answer, None)
                self.assertEqual(caught.exception.walk, walk)

    def test_great_laps(self):
        for first, second in ((BOUND + 1, 2 * BOUND + 2), (-BOUND - 1, BOUND + 1), (2 ** 200, 1), (1, -2 ** 200)):
            for error in self.raised(DOUBLING, (0, first, ()), (0, second, ()), TooGreat):
                self.assertEqual(error.what, "turns")
        # The walks are within the bound, but the lap of the one is not.
        web = (1, ((0, 0, 1000, 1),))
        walk = (0, 1, ((0, 1, 10 ** 59), (0, -1, -1)))
        for error in self.raised(web, walk, (0, 10, ()), TooGreat):
            self.assertEqual(error.what, "turns")

    def test_nothing_is_raised_where_it_is_plain(self):
        for web, first, second, answer in (
                (HALVES, (0, 2 ** 200, ()), (2, 5 ** 100, ()), False), (TURNING, (0, 2 ** 200, ()), CROSSED, False),
                (TURNING, (0, 2 ** 200, ()), (0, 0, ()), False), (TURNING, (0, 2 ** 200, ()), (0, 5 ** 200, ()), False),
                (FIVE_PRIMES, (0, 1, ()), (0, 13, ()), False), (TOO_MANY, (0, 1, ()), (0, 13, ()), False)):
            self.assertIs(are_carried(web, first, second), answer)
            self.assertIs(carrying_paper(web, first, second)[0], answer)

    def test_errors_of_rules(self):
        for web, error, what in ((FIVE_PRIMES, TooMany, "primes"), (TOO_MANY, TooMany, "rules"),
                                 (TOO_GREAT, TooGreat, "rules"), (MANY_AND_GREAT, TooMany, "rules")):
            for caught in self.raised(web, (0, 13, ()), (1, -13, ()), error):
                self.assertEqual(caught.what, what)
            for caught in self.raised(web, (0, 13, ()), (0, 13, ()), error):
                self.assertEqual(caught.what, what)

    def test_the_first_walk_goes_first(self):
        # The rests are 13 each: the turns of the first walk are looked at, then the rules, then the second walk.
        great = 13 * 2 ** 200
        for first, second, error, what in ((great, 13, TooGreat, "turns"), (13, great, TooMany, "primes"),
                                           (great, great, TooGreat, "turns")):
            for caught in self.raised(FIVE_PRIMES, (0, first, ()), (1, second, ()), error):
                self.assertEqual(caught.what, what)

    def test_shows_carrying_raises_nothing_more(self):
        for web in (FIVE_PRIMES, TOO_MANY, TOO_GREAT):
            for value in (None, ("rules", ()), ("unlike", "rests"), ("plan", ()), ("on", 0, 0)):
                self.assertIs(shows_carrying(web, (0, 13 * 2 ** 200, ()), (1, 13, ()), False, value), False)
        plan = ("plan", ((0, (("cross", 0, 1),)),))
        self.assertIs(shows_carrying(FIVE_PRIMES, (0, 30, ()), (1, 77, ()), True, plan), True)
        self.assertIs(shows_carrying(FIVE_PRIMES, (0, 30 * BOUND, ()), (1, 77 * BOUND, ()), True, plan), True)

    def test_many_walks_that_are_not_closed(self):
        for web in (FULL, PAIR):
            for walk in walks_in(web, 381, 20):
                if last_room(web, walk) != walk[0]:
                    for error in self.raised(web, walk, (0, 0, ()), NotClosed):
                        self.assertEqual(error.walk, walk)
