import random
import unittest

from tests.samples import (
    BOUND, BRIDGE, DOUBLING, EVEN, KLEIN, MIRROR, MOST, OTHER_KINDS, TRIANGLE, TURNING, WEBS, back, closed_in,
    ends, is_plain_by_words, joined, last_room, least_passing, plain_by_words, same, some_walk)
from tubewords.errors import NotClosed, OutOfRange, Stays, TooGreat
from tubewords.openings import opening_answers, opening_of, told_carrier
from tubewords.turned import goes_on, trip_and_lap

HALVING = (1, ((0, 0, 2, 1),))
STEEP = (1, ((0, 0, 1, 1000),))
TWO = (2, ((0, 0, 2, 3), (1, 1, 2, 3), (0, 0, 2, 3)))
CROSSED = (0, 0, ((0, 1, 0),))


def opened(web, walk, r):
    """The opening of a closed walk, told once more."""
    steps = walk[2]
    between = [k for _, _, k in steps]
    between[-1] += walk[1]
    row = [(t, s, k) for (t, s, _), k in zip(steps, between)]
    room = ends(web, *steps[r][:2])[0]
    return (room, 0, tuple(row[r:] + row[:r]))


def fits(web, opening, wanted, j):
    """Whether j turns joined to the wanted opening are equal to the opening joined to j turns."""
    if opening[0] != wanted[0] or [step[:2] for step in opening[2]] != [step[:2] for step in wanted[2]]:
        return False
    room = opening[0]
    return same(web, joined((room, j, ()), wanted), joined(opening, (room, j, ())))


def is_carrier(web, carrier, first, second):
    if carrier[0] != first[0] or last_room(web, carrier) != second[0]:
        return False
    return same(web, second, joined(back(web, carrier), first, carrier))


def going_in(web, seed, many, size=5):
    walks = closed_in(web, seed, many * 3, size)
    return [walk for walk in walks if goes_on(web, walk)][:many]


class OpeningTest(unittest.TestCase):
    WALK = (0, 1, ((0, 1, 2), (1, 1, 3), (2, 1, 4)))

    def test_openings(self):
        self.assertEqual(opening_of(TRIANGLE, self.WALK, 0), (0, 0, ((0, 1, 2), (1, 1, 3), (2, 1, 5))))
        self.assertEqual(opening_of(TRIANGLE, self.WALK, 1), (1, 0, ((1, 1, 3), (2, 1, 5), (0, 1, 2))))
        self.assertEqual(opening_of(TRIANGLE, self.WALK, 2), (2, 0, ((2, 1, 5), (0, 1, 2), (1, 1, 3))))
        self.assertEqual(opening_of(TURNING, (0, 7, ((0, 1, 2),)), 0), (0, 0, ((0, 1, 9),)))

    def test_the_walk_is_taken_as_it_is_written(self):
        walk = (0, 5, ((0, 1, 0), (0, -1, 8)))
        self.assertEqual(opening_of(TURNING, walk, 0), (0, 0, ((0, 1, 0), (0, -1, 13))))
        self.assertEqual(opening_of(TURNING, walk, 1), (0, 0, ((0, -1, 13), (0, 1, 0))))

    def test_many_walks(self):
        for web in WEBS:
            for walk in closed_in(web, 61, 20):
                for r in range(len(walk[2])):
                    told = opening_of(web, walk, r)
                    self.assertEqual(told, opened(web, walk, r))
                    self.assertTrue(is_carrier(web, (walk[0], walk[1], walk[2][:r]), walk, told))

    def test_not_closed_goes_first(self):
        walk = (0, 1, ((0, 1, 4),))
        for count in (0, 1, -1, None, True):
            with self.assertRaises(NotClosed) as caught:
                opening_of(BRIDGE, walk, count)
            self.assertEqual(caught.exception.walk, walk)

    def test_counts_out_of_range(self):
        for walk in ((0, 7, ()), (0, MOST, ((0, 1, 2),)), (0, MOST, ((0, 1, 2),) * 3)):
            for count in OTHER_KINDS + (-1, -2, len(walk[2]), len(walk[2]) + 1, 60, 10 ** 30, "0", (0,)):
                with self.assertRaises(OutOfRange, msg=(walk, count)) as caught:
                    opening_of(TURNING, walk, count)
                self.assertIs(type(caught.exception.value), type(count))
                self.assertEqual(caught.exception.value, count)

    def test_too_great(self):
        for sign in (1, -1):
            walk = (0, sign * (MOST - 1), ((0, 1, 0), (0, 1, sign)))
            self.assertEqual(opening_of(TURNING, walk, 0), (0, 0, ((0, 1, 0), (0, 1, sign * MOST))))
            self.assertEqual(opening_of(TURNING, walk, 1), (0, 0, ((0, 1, sign * MOST), (0, 1, 0))))
            for count in (0, 1):
                with self.assertRaises(TooGreat) as caught:
                    opening_of(TURNING, (0, sign * MOST, ((0, 1, 0), (0, 1, sign))), count)
                self.assertEqual(caught.exception.what, "turns")


class RaisesTest(unittest.TestCase):
    def check(self, web, first, second, error, walk):
        for function in (opening_answers, told_carrier):
            with self.assertRaises(error) as caught:
                function(web, first, second)
            self.assertEqual(caught.exception.walk, walk)

    def test_errors_in_their_order(self):
        web = (2, ((0, 1, 2, 3), (0, 0, 2, 3)))
        open_one, open_two = (0, 1, ((0, 1, 2),)), (1, 1, ((0, -1, 2),))
        stays, stays_too = (0, 1, ((0, 1, 3), (0, -1, 3))), (0, 7, ())
        goes = (0, 5, ((1, 1, 1),))
        self.check(web, open_one, open_two, NotClosed, open_one)
        self.check(web, open_one, goes, NotClosed, open_one)
        self.check(web, goes, open_two, NotClosed, open_two)
        self.check(web, stays, open_two, NotClosed, open_two)
        self.check(web, open_one, stays, NotClosed, open_one)
        self.check(web, stays, stays_too, Stays, stays)
        self.check(web, stays_too, stays, Stays, stays_too)
        self.check(web, stays, goes, Stays, stays)
        self.check(web, goes, stays, Stays, stays)
        self.check(web, goes, stays_too, Stays, stays_too)


class AnswersTest(unittest.TestCase):
    def test_examples_of_the_document(self):
        g, h = (0, 0, ((0, 1, 1), (0, 1, 0))), (0, 0, ((0, 1, 0), (0, 1, 1)))
        self.assertEqual(opening_answers(EVEN, g, h), (None, ("row", 0, 2)))
        self.assertEqual(opening_answers(DOUBLING, CROSSED, (0, 0, ((0, 1, 5),))), (("one", -5),))

    def test_answers(self):
        self.assertEqual(opening_answers(HALVING, CROSSED, (0, 0, ((0, 1, 5),))), (("one", 10),))
        self.assertEqual(opening_answers(EVEN, CROSSED, CROSSED), (("row", 0, 2),))
        self.assertEqual(opening_answers(EVEN, CROSSED, (0, 0, ((0, 1, 1),))), (None,))
        self.assertEqual(opening_answers(EVEN, (0, 1, ((0, 1, 0),)), (0, 0, ((0, 1, 1),))), (("row", 0, 2),))
        self.assertEqual(opening_answers(KLEIN, CROSSED, (0, 0, ((0, 1, 4),))), (("one", 2),))
        self.assertEqual(opening_answers(KLEIN, CROSSED, (0, 0, ((0, 1, 5),))), (None,))

    def test_other_crossings_and_rooms(self):
        self.assertEqual(opening_answers(DOUBLING, CROSSED, (0, 0, ((0, -1, 0),))), (None,))
        self.assertEqual(opening_answers(DOUBLING, CROSSED, (0, 0, ((0, 1, 0), (0, 1, 0)))), (None,))
        self.assertEqual(opening_answers(DOUBLING, (0, 0, ((0, 1, 0), (0, 1, 0))), CROSSED), (None, None))
        self.assertEqual(opening_answers(TWO, CROSSED, (1, 0, ((1, 1, 0),))), (None,))
        self.assertEqual(opening_answers(TWO, CROSSED, (0, 0, ((2, 1, 0),))), (None,))

    def test_rows_begin_at_the_least_j_from_0_on(self):
        web = (1, ((0, 0, 6, 6),))
        for turns in range(-8, 9):
            told = opening_answers(web, (0, 0, ((0, 1, 0), (0, 1, turns))), (0, 0, ((0, 1, turns), (0, 1, 0))))
            self.assertEqual(told, (("row", 0, 6) if turns % 6 == 0 else None, ("row", 0, 6)))

    def test_rows_that_begin_elsewhere(self):
        # The toll is 6: j must be even for the first tie, and then leave a certain rest by 3.
        web = (1, ((0, 0, 2, 2), (0, 0, 3, 3)))
        for turns, answer in ((0, ("row", 0, 6)), (1, ("row", 4, 6)), (2, ("row", 2, 6)), (3, ("row", 0, 6)),
                              (-1, ("row", 2, 6))):
            told = opening_answers(web, (0, 0, ((0, 1, turns), (1, 1, 0))), (0, 0, ((0, 1, 0), (1, 1, turns))))
            self.assertEqual(told, (answer, None), turns)

    def test_laps_are_opened(self):
        walk = (0, 1, ((0, 1, 1), (0, 1, 5), (0, -1, -3)))
        lap = trip_and_lap(TURNING, walk)[1]
        self.assertEqual(len(lap[2]), 1)
        for other in (walk, lap, CROSSED):
            self.assertEqual(opening_answers(TURNING, walk, other), opening_answers(TURNING, lap, other))
            self.assertEqual(opening_answers(TURNING, other, walk), opening_answers(TURNING, other, lap))

    def check(self, web, first, second, around=30):
        """Whether the answers are right, the j around 0 being tried one by one."""
        lap, other = trip_and_lap(web, first)[1], trip_and_lap(web, second)[1]
        answers = opening_answers(web, first, second)
        self.assertEqual(len(answers), len(lap[2]))
        for r, answer in enumerate(answers):
            opening, wanted = opened(web, lap, r), opened(web, other, 0)
            fitting = [j for j in range(-around, around + 1) if fits(web, opening, wanted, j)]
            if answer is None:
                self.assertEqual(fitting, [])
            elif answer[0] == "one":
                kind, j = answer
                self.assertTrue(fits(web, opening, wanted, j))
                self.assertEqual(fitting, [j] if abs(j) <= around else [])
            else:
                kind, j, toll = answer
                self.assertEqual(kind, "row")
                self.assertEqual(toll, least_passing(web, [step[:2] for step in opening[2]])[0])
                self.assertTrue(0 <= j < toll)
                self.assertEqual(fitting, [n for n in range(-around, around + 1) if (n - j) % toll == 0])
        return answers

    def test_many_walks(self):
        kinds = []
        for web in (TURNING, DOUBLING, HALVING, EVEN, KLEIN, MIRROR, TRIANGLE):
            walks = going_in(web, 62, 7, 4)
            for first in walks:
                for second in walks:
                    kinds += [answer and answer[0] for answer in self.check(web, first, second)]
        self.assertEqual([kind in kinds for kind in (None, "one", "row")], [True, True, True])

    def test_walks_that_are_carried_into_each_other(self):
        chance = random.Random(63)
        for web in WEBS:
            for walk in going_in(web, 64, 5, 4):
                other = some_walk(chance, web, 2, walk[0])
                second = plain_by_words(web, joined(back(web, other), walk, other))
                answers = self.check(web, walk, second, 12)
                self.assertNotEqual(answers, (None,) * len(answers))

    def test_any_size(self):
        great = (0, MOST, ((0, 1, MOST),))
        self.assertEqual(opening_answers(STEEP, CROSSED, great), (("one", -1001 * MOST // 999),))
        self.assertEqual(opening_answers(STEEP, great, CROSSED), (("one", 1001 * MOST // 999),))
        self.assertEqual(opening_answers(STEEP, great, great), (("one", 0),))
        self.assertEqual(opening_answers(HALVING, CROSSED, (0, 0, ((0, 1, -MOST),))), (("one", -2 * MOST),))
        web = (1, ((0, 0, 1000, 1000),))
        self.assertEqual(opening_answers(web, (0, 0, ((0, 1, MOST),)), (0, 0, ((0, 1, MOST),))), (("row", 0, 1000),))

    def test_long_laps(self):
        web = (1, ((0, 0, 1000, 999),))
        walk = (0, 0, ((0, 1, 1),) * 60)
        answers = opening_answers(web, walk, walk)
        self.assertEqual(answers, (("one", 0),) * 60)
        web = (1, ((0, 0, 7, 7),))
        walk = (0, 0, ((0, 1, 0), (0, 1, 1)) + ((0, 1, 0),) * 58)
        self.assertEqual(opening_answers(web, walk, walk), (("row", 0, 7),) + (None,) * 59)


class CarrierTest(unittest.TestCase):
    def carrier_by_words(self, web, first, second):
        """The told carrier, put together as the document says."""
        answers = opening_answers(web, first, second)
        for r, answer in enumerate(answers):
            if answer is not None:
                trip, lap = trip_and_lap(web, first)
                other_trip, other_lap = trip_and_lap(web, second)
                begun = (lap[0], lap[1], lap[2][:r])
                room = last_room(web, begun)
                return plain_by_words(web, joined(
                    trip, begun, (room, answer[1], ()), (room, -other_lap[1], ()), back(web, other_trip)))
        return None

    def test_carriers(self):
        g, h = (0, 0, ((0, 1, 1), (0, 1, 0))), (0, 0, ((0, 1, 0), (0, 1, 1)))
        self.assertEqual(told_carrier(EVEN, g, h), (0, 0, ((0, 1, 1),)))
        self.assertEqual(told_carrier(DOUBLING, CROSSED, (0, 0, ((0, 1, 5),))), (0, -5, ()))
        self.assertEqual(told_carrier(EVEN, CROSSED, CROSSED), (0, 0, ()))
        self.assertIs(told_carrier(EVEN, CROSSED, (0, 0, ((0, 1, 1),))), None)
        self.assertIs(told_carrier(TWO, CROSSED, (1, 0, ((1, 1, 0),))), None)

    def test_number_0_of_the_laps(self):
        first, second = (0, 1, ((0, 1, 0),)), (0, 0, ((0, 1, 1),))
        self.assertEqual(opening_answers(EVEN, first, second), (("row", 0, 2),))
        self.assertEqual(told_carrier(EVEN, first, second), (0, 1, ()))
        self.assertEqual(told_carrier(EVEN, second, first), (0, -1, ()))

    def test_many_walks(self):
        for web in WEBS:
            walks = going_in(web, 65, 7, 4)
            for first in walks:
                for second in walks:
                    told = told_carrier(web, first, second)
                    self.assertEqual(told, self.carrier_by_words(web, first, second))
                    if told is not None:
                        self.assertTrue(is_carrier(web, told, first, second))
                        self.assertTrue(is_plain_by_words(web, told))

    def test_walks_that_are_carried_into_each_other(self):
        chance = random.Random(66)
        for web in WEBS:
            for walk in going_in(web, 67, 10, 6):
                other = some_walk(chance, web, 4, walk[0])
                second = joined(back(web, other), walk, other)
                told = told_carrier(web, walk, second)
                self.assertIsNotNone(told)
                self.assertTrue(is_carrier(web, told, walk, second), (web, walk, second))
                self.assertEqual(told, self.carrier_by_words(web, walk, second))
                self.assertTrue(is_carrier(web, told_carrier(web, second, walk), second, walk))

    def test_the_least_r_with_an_answer(self):
        walk = (0, 0, ((0, 1, 0), (0, 1, 0), (0, 1, 1), (0, 1, 0), (0, 1, 0), (0, 1, 1)))
        second = (0, 0, ((0, 1, 0), (0, 1, 1), (0, 1, 0), (0, 1, 0), (0, 1, 1), (0, 1, 0)))
        row = ("row", 0, 2)
        self.assertEqual(opening_answers(EVEN, walk, second), (None, row, None, None, row, None))
        self.assertEqual(told_carrier(EVEN, walk, second), (0, 0, ((0, 1, 0),)))

    def test_too_great(self):
        for sign in (1, -1):
            half = sign * BOUND // 2
            self.assertEqual(told_carrier(HALVING, CROSSED, (0, 0, ((0, 1, half - sign),))), (0, 2 * (half - sign), ()))
            for turns in (half, sign * MOST):
                self.assertEqual(opening_answers(HALVING, CROSSED, (0, 0, ((0, 1, turns),))), (("one", 2 * turns),))
                with self.assertRaises(TooGreat) as caught:
                    told_carrier(HALVING, CROSSED, (0, 0, ((0, 1, turns),)))
                self.assertEqual(caught.exception.what, "turns")

    def test_laps_may_be_too_great(self):
        great = (0, MOST, ((0, 1, MOST),))
        with self.assertRaises(TooGreat):
            trip_and_lap(STEEP, great)
        self.assertEqual(told_carrier(STEEP, great, great), (0, 0, ()))
        self.assertIs(told_carrier(STEEP, great, (0, 0, ((0, -1, 0),))), None)
