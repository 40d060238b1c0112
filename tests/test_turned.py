import random
import unittest

from tests.samples import (
    BOUND, BRIDGE, DOUBLING, EVEN, KLEIN, LONE, MIRROR, MOST, OTHER_KINDS, STILL, TRIANGLE, TURNING, WEBS, apart,
    back, closed_in, ends, is_plain_by_words, joined, led, numbers, places_up_to, plain_by_words, same, some_walk)
from tubewords.errors import NotClosed, OutOfRange, TooGreat
from tubewords.keeping import keeps_place, line_places, nearest_kept
from tubewords.turned import goes_on, is_turned, pace_of, rotated_walk, trip_and_lap, trip_steps, walk_length

STEEP = (1, ((0, 0, 1, 1000),))
ONES = (1, ((0, 0, 1, 1),))
FUNCTIONS = (is_turned, trip_and_lap, walk_length, goes_on, trip_steps, pace_of)


def power(web, walk, count):
    """A closed walk joined to itself so often, or its opposite."""
    if count < 0:
        return power(web, back(web, walk), -count)
    return joined((walk[0], 0, ()), *([walk] * count))


def between_by_words(walk, i):
    """The turns between step i, counted from 1, and the next one."""
    ks = numbers(walk)
    return ks[i] if i < len(walk[2]) else ks[i] + ks[0]


def is_turned_by_words(web, walk):
    steps = walk[2]
    for i in range(1, len(steps) + 1):
        t, s, _ = steps[i - 1]
        u, z, _ = steps[i % len(steps)]
        if t == u and s == -z and between_by_words(walk, i) % ends(web, t, s)[3] == 0:
            return False
    return True


class ClosedTest(unittest.TestCase):
    def test_not_closed(self):
        walk = (0, 7, ((0, 1, 4),))
        for function in FUNCTIONS:
            with self.assertRaises(NotClosed) as caught:
                function(BRIDGE, walk)
            self.assertEqual(caught.exception.walk, walk)
        for count in (0, 1, 2, -1, None, True):
            with self.assertRaises(NotClosed) as caught:
                rotated_walk(BRIDGE, walk, count)
            self.assertEqual(caught.exception.walk, walk)


class TurnedTest(unittest.TestCase):
    def test_walks_without_steps_and_with_one(self):
        for turns in (0, 1, -6, MOST):
            self.assertIs(is_turned(STILL, (0, turns, ())), True)
            self.assertIs(is_turned(TURNING, (0, turns, ((0, 1, -turns),))), True)
            self.assertIs(is_turned(TURNING, (0, turns, ((0, -1, 0),))), True)

    def test_turns_within(self):
        for turns in range(-7, 8):
            walk = (0, 1, ((0, 1, turns), (0, -1, 0)))
            self.assertIs(is_turned(TURNING, walk), turns % 3 != 0, turns)
            walk = (0, 1, ((0, -1, turns), (0, 1, 0)))
            self.assertIs(is_turned(TURNING, walk), turns % 2 != 0, turns)
            walk = (0, 0, ((0, 1, 0), (0, 1, turns), (0, -1, 0), (0, 1, 1)))
            self.assertIs(is_turned(TURNING, walk), False)
            walk = (0, 0, ((0, 1, 0), (0, 1, turns), (0, -1, 1), (0, 1, 1)))
            self.assertIs(is_turned(TURNING, walk), turns % 3 != 0, turns)

    def test_turns_between_the_last_step_and_the_first(self):
        for first in range(-3, 4):
            for last in range(-3, 4):
                walk = (0, first, ((0, 1, 1), (0, -1, last)))
                self.assertIs(is_turned(TURNING, walk), (first + last) % 2 != 0, walk)
                walk = (0, first, ((0, -1, 1), (0, 1, last)))
                self.assertIs(is_turned(MIRROR, walk), (first + last) % 3 != 0, walk)

    def test_the_end_is_the_one_behind(self):
        web = (2, ((0, 1, 2, 3),))
        self.assertIs(is_turned(web, (0, 1, ((0, 1, 2), (0, -1, 0)))), True)
        self.assertIs(is_turned(web, (0, 1, ((0, 1, 3), (0, -1, 0)))), False)
        self.assertIs(is_turned(web, (1, 2, ((0, -1, 1), (0, 1, 0)))), True)
        self.assertIs(is_turned(web, (1, 2, ((0, -1, 1), (0, 1, 1)))), False)

    def test_other_ties_and_one_side(self):
        two = (2, ((0, 1, 2, 3), (0, 1, 2, 3)))
        self.assertIs(is_turned(two, (0, 0, ((0, 1, 0), (1, -1, 0)))), True)
        self.assertIs(is_turned(TURNING, (0, 0, ((0, 1, 0), (0, 1, 0)))), True)

    def test_many_walks(self):
        for web in WEBS + (STILL, LONE):
            for walk in closed_in(web, 51, 40):
                self.assertIs(is_turned(web, walk), is_turned_by_words(web, walk), (web, walk))

    def test_the_walk_is_taken_as_it_is_written(self):
        self.assertIs(is_turned(TURNING, (0, 0, ((0, 1, 0), (0, -1, 0)))), False)
        self.assertIs(is_turned(TURNING, (0, 0, ())), True)


class TripAndLapTest(unittest.TestCase):
    def test_examples_of_the_document(self):
        self.assertEqual(trip_and_lap(BRIDGE, (0, 1, ((0, 1, 3), (0, -1, 3)))), ((0, 0, ()), (0, 6, ())))
        self.assertEqual(trip_and_lap(BRIDGE, (0, 1, ((0, 1, 1), (0, -1, 1)))), ((0, 1, ((0, 1, 0),)), (1, 4, ())))

    def test_walks_without_steps_and_with_one(self):
        self.assertEqual(trip_and_lap(STILL, (0, -5, ())), ((0, 0, ()), (0, -5, ())))
        self.assertEqual(trip_and_lap(TURNING, (0, 5, ((0, 1, 1),))), ((0, 0, ()), (0, 1, ((0, 1, 7),))))
        self.assertEqual(trip_and_lap(LONE, (3, 0, ())), ((3, 0, ()), (3, 0, ())))

    def test_carried_round_more_than_once(self):
        walk = (0, 1, ((0, 1, 1), (0, 1, 1), (0, -1, -1), (0, -1, -1)))
        self.assertEqual(trip_and_lap(TURNING, walk), ((0, 1, ((0, 1, 1), (0, 1, 0))), (0, 1, ())))
        walk = (0, 1, ((0, 1, 1), (0, 1, 5), (0, -1, -3)))
        plain = plain_by_words(TURNING, walk)
        self.assertEqual(plain, (0, 1, ((0, 1, 1), (0, 1, 2), (0, -1, -1))))
        self.assertEqual(trip_and_lap(TURNING, walk), ((0, 1, ((0, 1, 0),)), (0, 1, ((0, 1, 2),))))

    def test_numbers_below_0(self):
        walk = (0, 1, ((0, 1, 1), (0, -1, -5)))
        self.assertEqual(trip_and_lap(TURNING, walk), ((0, 1, ((0, 1, 0),)), (0, 1 - 6, ())))
        self.assertEqual(trip_and_lap(MIRROR, walk), ((0, 1, ((0, 1, 0),)), (0, 1 + 6, ())))

    def test_many_walks(self):
        for web in WEBS + (STILL, LONE):
            for walk in closed_in(web, 52, 40):
                trip, lap = trip_and_lap(web, walk)
                plain = plain_by_words(web, walk)
                r = len(trip[2])
                self.assertEqual(numbers(trip), numbers(plain)[:r] + [0])
                self.assertEqual([step[:2] for step in trip[2]], [step[:2] for step in plain[2][:r]])
                self.assertEqual(trip[0], walk[0])
                self.assertTrue(is_plain_by_words(web, lap))
                self.assertTrue(is_turned_by_words(web, lap))
                self.assertTrue(same(web, walk, joined(trip, lap, back(web, trip))), (web, walk))
                self.assertEqual(trip_steps(web, walk), r)
                self.assertEqual(walk_length(web, walk), len(lap[2]))
                self.assertEqual(len(plain[2]), 2 * r + len(lap[2]))

    def test_too_great(self):
        self.assertEqual(trip_and_lap(STILL, (0, MOST, ())), ((0, 0, ()), (0, MOST, ())))
        self.assertEqual(trip_and_lap(STILL, (0, -MOST, ())), ((0, 0, ()), (0, -MOST, ())))
        with self.assertRaises(TooGreat):
            trip_and_lap(STEEP, (0, MOST, ((0, 1, 0),)))
        self.assertEqual((walk_length(STEEP, (0, MOST, ((0, 1, 0),))), trip_steps(STEEP, (0, MOST, ((0, 1, 0),)))), (1, 0))

    def test_numbers_just_too_great(self):
        # Carried round, the plain walk (0, 1, ((0, 1, n), (0, -1, 2 t - 1))) becomes n + 17 t turns.
        web = (2, ((0, 1, 2, 17),))
        trip = (0, 1, ((0, 1, 0),))
        for turns in (MOST, -MOST, MOST - 1, BOUND, -BOUND, BOUND + 1, -BOUND - 1):
            n, t = turns % 17, turns // 17
            self.assertNotEqual(n, 0)
            walk = (0, 1, ((0, 1, n), (0, -1, 2 * t - 1)))
            self.assertTrue(is_plain_by_words(web, walk))
            self.assertEqual((walk_length(web, walk), goes_on(web, walk), trip_steps(web, walk)), (0, False, 1))
            if abs(turns) < BOUND:
                self.assertEqual(trip_and_lap(web, walk), (trip, (1, turns, ())))
            else:
                with self.assertRaises(TooGreat) as caught:
                    trip_and_lap(web, walk)
                self.assertEqual(caught.exception.what, "turns")

    def test_what_is_too_great_on_the_way_alone(self):
        walk = (0, MOST, ((0, 1, 0), (0, -1, 0)))
        self.assertEqual(trip_and_lap(STEEP, walk), ((0, 0, ()), (0, MOST, ())))


class LengthTest(unittest.TestCase):
    def test_lengths(self):
        self.assertEqual(walk_length(TURNING, (0, 5, ())), 0)
        self.assertEqual(walk_length(TURNING, (0, 5, ((0, 1, 1),))), 1)
        self.assertEqual(walk_length(TURNING, (0, 0, ((0, 1, 0), (0, -1, 0)))), 0)
        self.assertEqual(walk_length(TURNING, (0, 1, ((0, 1, 1), (0, -1, 0)))), 2)
        self.assertEqual(trip_steps(TURNING, (0, 1, ((0, 1, 1), (0, -1, 0)))), 0)
        self.assertEqual(walk_length(TURNING, (0, 1, ((0, 1, 1), (0, -1, -1)))), 0)
        self.assertEqual(trip_steps(TURNING, (0, 1, ((0, 1, 1), (0, -1, -1)))), 1)

    def test_goes_on(self):
        self.assertIs(goes_on(TURNING, (0, 5, ())), False)
        self.assertIs(goes_on(TURNING, (0, 5, ((0, 1, 1),))), True)
        self.assertIs(goes_on(TURNING, (0, 0, ((0, 1, 0), (0, -1, 0)))), False)
        self.assertIs(goes_on(TURNING, (0, 1, ((0, 1, 1), (0, -1, -1)))), False)
        self.assertIs(goes_on(TURNING, (0, 1, ((0, 1, 1), (0, -1, 0)))), True)

    def test_steps_once_and_twice(self):
        for web in WEBS:
            for walk in closed_in(web, 53, 30):
                x = len(plain_by_words(web, walk)[2])
                y = len(plain_by_words(web, joined(walk, walk))[2])
                length = walk_length(web, walk)
                self.assertEqual(length, max(0, y - x))
                self.assertEqual(trip_steps(web, walk), (x - length) // 2)
                self.assertIs(goes_on(web, walk), y > x)

    def test_powers_equal_walks_opposites_and_carried_ones(self):
        chance = random.Random(54)
        for web in WEBS:
            for walk in closed_in(web, 55, 10, 6):
                length = walk_length(web, walk)
                for count in (-2, 0, 1, 3):
                    self.assertEqual(walk_length(web, power(web, walk, count)), length * abs(count))
                self.assertEqual(walk_length(web, back(web, walk)), length)
                self.assertEqual(walk_length(web, plain_by_words(web, walk)), length)
                other = some_walk(chance, web, 4, walk[0])
                self.assertEqual(walk_length(web, joined(back(web, other), walk, other)), length)

    def test_how_far_places_are_led(self):
        for web, size in ((TURNING, 3), (DOUBLING, 4), (KLEIN, 4), (EVEN, 3)):
            places = places_up_to(web, 0, size)
            for walk in closed_in(web, 56, 8, 3, 0):
                length = walk_length(web, walk)
                if goes_on(web, walk):
                    row = line_places(web, walk)
                    line = set(row)
                    for count in range(1, 9):
                        line.update(led(web, power(web, walk, count), place) for place in row)
                        line.update(led(web, power(web, walk, -count), place) for place in row)
                    for place in places:
                        far = min(apart(place, other) for other in line)
                        self.assertEqual(apart(place, led(web, walk, place)), length + 2 * far)
                else:
                    kept = [place for place in places_up_to(web, 0, size + 1) if led(web, walk, place) == place]
                    for place in places:
                        if apart(place, nearest_kept(web, walk)) <= 1:
                            far = min(apart(place, other) for other in kept)
                            self.assertEqual(apart(place, led(web, walk, place)), 2 * far)

    def test_two_walks_that_stay(self):
        for web, size in ((TURNING, 3), (DOUBLING, 5), (EVEN, 3)):
            places = places_up_to(web, 0, size)
            walks = [walk for walk in closed_in(web, 57, 30, 4, 0) if not goes_on(web, walk)][:8]
            kept = {walk: [place for place in places if keeps_place(web, walk, place)] for walk in walks}
            for first in walks:
                for second in walks:
                    both = joined(first, second)
                    # The places that are nearest to one another stand between the nearest ones of the base place.
                    far = min(apart(one, other) for one in kept[first] for other in kept[second])
                    self.assertEqual(walk_length(web, both), 2 * far, (web, first, second))


class RotatedTest(unittest.TestCase):
    WALK = (0, 1, ((0, 1, 2), (1, 1, 3), (2, 1, 4)))

    def test_rotations(self):
        self.assertEqual(rotated_walk(TRIANGLE, self.WALK, 0), self.WALK)
        self.assertEqual(rotated_walk(TRIANGLE, self.WALK, 1), (1, 2, ((1, 1, 3), (2, 1, 5), (0, 1, 0))))
        self.assertEqual(rotated_walk(TRIANGLE, self.WALK, 2), (2, 3, ((2, 1, 5), (0, 1, 2), (1, 1, 0))))
        self.assertEqual(rotated_walk(TRIANGLE, self.WALK, 3), (0, 5, ((0, 1, 2), (1, 1, 3), (2, 1, 0))))

    def test_walks_without_steps_and_with_one(self):
        self.assertEqual(rotated_walk(STILL, (0, 7, ()), 0), (0, 7, ()))
        self.assertEqual(rotated_walk(TURNING, (0, 7, ((0, 1, 2),)), 0), (0, 7, ((0, 1, 2),)))
        self.assertEqual(rotated_walk(TURNING, (0, 7, ((0, 1, 2),)), 1), (0, 9, ((0, 1, 0),)))

    def test_the_walk_is_taken_as_it_is_written(self):
        walk = (0, 7, ((0, 1, 0), (0, -1, 8)))
        self.assertEqual(rotated_walk(TURNING, walk, 1), (0, 0, ((0, -1, 15), (0, 1, 0))))
        self.assertEqual(rotated_walk(TURNING, walk, 2), (0, 15, ((0, 1, 0), (0, -1, 0))))

    def test_counts_out_of_range(self):
        for walk in ((0, 7, ()), (0, 7, ((0, 1, 2),)), (0, 7, ((0, 1, 2),) * 3)):
            for count in OTHER_KINDS + (-1, -2, len(walk[2]) + 1, 60, 10 ** 30, "0", (0,)):
                with self.assertRaises(OutOfRange, msg=(walk, count)) as caught:
                    rotated_walk(TURNING, walk, count)
                self.assertIs(type(caught.exception.value), type(count))
                self.assertEqual(caught.exception.value, count)

    def test_too_great(self):
        walk = (0, MOST, ((0, 1, 0), (0, 1, 1)))
        self.assertEqual(rotated_walk(TURNING, walk, 0), walk)
        for count in (1, 2):
            for sign in (1, -1):
                with self.assertRaises(TooGreat) as caught:
                    rotated_walk(TURNING, (0, sign * MOST, ((0, 1, 0), (0, 1, sign))), count)
                self.assertEqual(caught.exception.what, "turns")
        self.assertEqual(rotated_walk(TURNING, (0, MOST - 1, ((0, 1, 0), (0, 1, 1))), 2), (0, MOST, ((0, 1, 0), (0, 1, 0))))

    def test_many_walks(self):
        for web in WEBS:
            for walk in closed_in(web, 58, 20):
                turned = is_turned_by_words(web, walk)
                for count in range(len(walk[2]) + 1):
                    told = rotated_walk(web, walk, count)
                    begun = (walk[0], walk[1], walk[2][:count])
                    if count:
                        begun = (walk[0], walk[1], walk[2][:count - 1] + (walk[2][count - 1][:2] + (0,),))
                    else:
                        begun = (walk[0], 0, ())
                    self.assertTrue(same(web, walk, joined(begun, told, back(web, begun))))
                    self.assertEqual(len(told[2]), len(walk[2]))
                    if turned:
                        self.assertTrue(is_turned_by_words(web, told))


class PaceTest(unittest.TestCase):
    def test_paces(self):
        a, b, c = (0, 1, 5), (0, -1, 7), (0, 1, -4)
        self.assertEqual(pace_of(TURNING, (0, 3, ())), 0)
        for steps, pace in (((a,), 1), ((a, c), 1), ((a, b), 2), ((a, a, b), 3), ((a, b, c, b), 2), ((a, a, b, c), 4),
                            ((a, a, b, a, c, b), 3), ((a, b, a, b, a, b), 2), ((a, b, a, a, b, a), 3),
                            ((a,) * 60, 1), ((a, b) * 30, 2), ((a,) * 59 + (b,), 60), ((a, a, b, b) * 15, 4),
                            ((a, b, a, b, a), 5)):
            self.assertEqual(pace_of(TURNING, (0, 3, steps)), pace, steps)

    def test_ties_and_sides_count_and_turns_do_not(self):
        web = (1, ((0, 0, 2, 3), (0, 0, 2, 3)))
        self.assertEqual(pace_of(web, (0, 9, ((0, 1, 0), (1, 1, 0)))), 2)
        self.assertEqual(pace_of(web, (0, 9, ((0, 1, 0), (0, 1, 6)))), 1)
        self.assertEqual(pace_of(web, (0, 9, ((0, 1, 0), (0, -1, 0)))), 2)

    def test_the_walk_is_taken_as_it_is_written(self):
        self.assertEqual(pace_of(TURNING, (0, 0, ((0, 1, 0), (0, -1, 0)))), 2)
