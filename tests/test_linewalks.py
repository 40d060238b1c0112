import random
import unittest

from tests.linesamples import (
    BOUND, E, HALVES, LINE_WEBS, MINUS, TURNED, TWO_TIES, going_in, length, line_of, move_on_line, power,
    share_sign)
from tests.samples import DOUBLING, EVEN, KLEIN, TURNING, back, closed_in, joined, led, plain_by_words, same
from tubewords.commuting import commuting_sort, do_commute, what_commutes
from tubewords.errors import NotClosed, NotJoined, OutOfRange, Stays, TooGreat, TooMany
from tubewords.linewalks import (
    keeps_line, line_numbers, line_walks, rests_on_line, still_turns, still_walk)
from tubewords.roots import common_powers, greatest_root, has_lone_roots, root_for
from tubewords.shares import toll_of
from tubewords.turned import trip_and_lap
from tubewords.walks import is_walk


class StillTest(unittest.TestCase):
    def test_still_turns(self):
        for web, turns in ((TURNING, 0), (DOUBLING, 0), (EVEN, 2), (KLEIN, 1), (MINUS, 2)):
            self.assertEqual(still_turns(web, E), turns)
            self.assertEqual(still_walk(web, E), None if turns == 0 else (0, turns, ()))
        self.assertEqual(still_turns(TURNING, (0, 0, ((0, 1, 1), (0, -1, 1)))), 2)
        self.assertEqual(still_turns(TURNING, (0, 0, ((0, -1, 1), (0, 1, 1)))), 3)
        self.assertEqual(still_turns(TWO_TIES, (0, 0, ((0, 1, 0), (1, 1, 0)))), 6)
        self.assertEqual(still_turns(EVEN, (0, 0, ((0, 1, 0),) * 24)), 2)

    def test_shares_that_are_not_1(self):
        for walk in ((0, 0, ((0, 1, 0),)), (0, 0, ((0, -1, 0),)), (0, 0, ((0, 1, 1), (0, 1, 0), (0, -1, 1)))):
            self.assertEqual(still_turns(TURNING, walk), 0)
            self.assertIsNone(still_walk(TURNING, walk))

    def test_many_walks(self):
        for web in LINE_WEBS:
            for walk in going_in(web, 421, 12):
                trip, lap = trip_and_lap(web, walk)
                expected = toll_of(web, lap)[0] if share_sign(web, lap) else 0
                self.assertEqual(still_turns(web, walk), expected)
                still = still_walk(web, walk)
                self.assertEqual(still is None, expected == 0)
                if still is not None:
                    self.assertTrue(is_walk(web, still))
                    self.assertTrue(same(web, still, joined(trip, (lap[0], expected, ()), back(web, trip))))

    def test_just_its_powers_rest(self):
        for web in LINE_WEBS:
            for walk in going_in(web, 422, 6):
                trip, lap = trip_and_lap(web, walk)
                places = line_of(web, walk, 8)
                turns = still_turns(web, walk)
                for k in range(-13, 14):
                    other = joined(trip, (lap[0], k, ()), back(web, trip))
                    rests = k == 0 if turns == 0 else k % turns == 0
                    self.assertIs(rests_on_line(web, walk, other), rests)
                    self.assertIs(keeps_line(web, walk, other), rests)
                    if rests:
                        self.assertEqual(move_on_line(web, places, other), 0)


class LineTest(unittest.TestCase):
    def test_line_walks(self):
        self.assertEqual(len(line_walks(DOUBLING, E)), 1)
        self.assertTrue(same(DOUBLING, line_walks(DOUBLING, power(DOUBLING, E, 3))[0], E))
        for web in (EVEN, KLEIN, MINUS):
            t, f = line_walks(web, power(web, E, -4))
            self.assertEqual(length(web, t), 1)
            self.assertTrue(same(web, f, still_walk(web, E)))

    def test_a_walk_that_is_no_power_but_keeps_the_line(self):
        # With 2 turns between all crossings, half of the walk keeps the line, though none of its powers is the walk.
        walk = (0, 0, ((0, 1, 0), (0, 1, 2)))
        t, f = line_walks(EVEN, walk)
        self.assertEqual(length(EVEN, t), 1)
        self.assertEqual(line_numbers(EVEN, (t, f), walk)[0], 2)
        # Here the turns behind the first half leave another rest, so that it moves the line elsewhere.
        walk = (0, 0, ((0, 1, 0), (0, 1, 1)))
        self.assertEqual(length(EVEN, line_walks(EVEN, walk)[0]), 2)
        # Without a still walk what comes out behind the lap must be just the same.
        for turns in range(-4, 5):
            walk = (0, 0, ((0, 1, 0), (0, 1, turns)))
            t, = line_walks(DOUBLING, walk)
            self.assertEqual(length(DOUBLING, t), 1 if turns % 3 == 0 else 2, turns)
            self.assertEqual(greatest_root(DOUBLING, walk)[0], 2 if turns % 3 == 0 else 1)

    def test_tolls_that_depend_on_where_one_begins(self):
        walk = (0, 0, ((0, 1, 0), (1, -1, 0)))
        self.assertEqual(still_turns(HALVES, walk), 2 * 2)
        walk = (1, 0, ((0, -1, 0), (1, 1, 0)))
        self.assertEqual(still_turns(HALVES, walk), 6)

    def test_t_moves_the_line_the_least(self):
        for web in LINE_WEBS:
            for walk in going_in(web, 423, 8):
                told = line_walks(web, walk)
                places = line_of(web, walk, 8)
                self.assertTrue(all(is_walk(web, part) for part in told))
                least = length(web, told[0])
                self.assertEqual(move_on_line(web, places, told[0]), least)
                self.assertEqual(move_on_line(web, places, walk), length(web, walk))
                self.assertEqual(length(web, walk) % least, 0)
                self.assertEqual(len(told) == 2, still_walk(web, walk) is not None)
                trip, lap = trip_and_lap(web, walk)
                for d in range(1, least):
                    ahead = (lap[0], lap[1], lap[2][:d])
                    for k in range(-20, 21):
                        other = joined(trip, ahead)
                        if is_closed_there(web, ahead):
                            other = joined(other, (lap[0], k, ()), back(web, trip))
                            self.assertNotEqual(move_on_line(web, places, other), d)
                            self.assertIs(keeps_line(web, walk, other), False)

    def test_what_keeps_the_line(self):
        counts = {True: 0, False: 0}
        for web in LINE_WEBS:
            for walk in going_in(web, 424, 6):
                places = line_of(web, walk, 10)
                told = line_walks(web, walk)
                others = closed_in(web, 425, 12, 5, walk[0])
                others += [joined(power(web, told[0], a), power(web, told[-1], b)) for a in (-1, 0, 1) for b in (-1, 0, 2)]
                for other in others:
                    if len(plain_by_words(web, other)[2]) > 24 or length(web, other) > 2 * length(web, walk):
                        continue
                    moved = move_on_line(web, places, other)
                    counts[moved is not None] += 1
                    self.assertIs(keeps_line(web, walk, other), moved is not None, (web, walk, other))
                    self.assertIs(rests_on_line(web, walk, other), moved == 0)
        self.assertGreater(min(counts.values()), 100)

    def test_turning_a_line_over_is_not_keeping_it(self):
        # One turn in room 0 leads the line of the walk to itself, but the other way round.
        web = (2, ((0, 1, 2, 2),))
        walk = (0, 1, ((0, 1, 1), (0, -1, 0)))
        places = line_of(web, walk, 4)
        self.assertEqual(length(web, walk), 2)
        self.assertEqual({place_led(web, place) for place in places[2:-2]} - set(places), set())
        self.assertIs(keeps_line(web, walk, (0, 1, ())), False)
        self.assertIs(keeps_line(web, walk, (0, 2, ())), True)


def place_led(web, place):
    return led(web, (0, 1, ()), place)


def is_closed_there(web, walk):
    rooms = [walk[0]]
    for t, s, _ in walk[2]:
        v, w, _, _ = web[1][t]
        rooms.append(w if s == 1 else v)
    return rooms[-1] == walk[0]


class NumbersTest(unittest.TestCase):
    def test_numbers(self):
        t, f = line_walks(KLEIN, E)
        self.assertEqual(line_numbers(KLEIN, (t, f), (0, 0, ())), (0, 0))
        self.assertEqual(line_numbers(KLEIN, (t, f), f), (0, 1))
        self.assertEqual(line_numbers(KLEIN, (t, f), t), (1, 0))
        self.assertEqual(line_numbers(KLEIN, (t, f), back(KLEIN, t)), (-1, 0))
        self.assertEqual(line_numbers(EVEN, line_walks(EVEN, E), (0, 1, ())), None)
        self.assertEqual(line_numbers(DOUBLING, (E,), (0, 0, ((0, 1, 0),) * 24)), (24, 0))
        self.assertIsNone(line_numbers(DOUBLING, (E,), (0, 1, ())))
        self.assertIsNone(line_numbers(DOUBLING, (E,), (0, 1, ((0, 1, 0),))))
        self.assertEqual(line_numbers(DOUBLING, (power(DOUBLING, E, 2),), power(DOUBLING, E, -6)), (-3, 0))
        self.assertIsNone(line_numbers(DOUBLING, (power(DOUBLING, E, 2),), power(DOUBLING, E, 3)))

    def test_many_numbers(self):
        chance = random.Random(426)
        for web in LINE_WEBS:
            for walk in going_in(web, 427, 8):
                for told in (line_walks(web, walk), what_commutes(web, walk)):
                    for _ in range(4):
                        a, b = chance.randint(-2, 2), chance.randint(-5, 5) if len(told) == 2 else 0
                        other = joined(power(web, told[0], a), power(web, told[-1], b))
                        if len(plain_by_words(web, other)[2]) <= 24 and len(other[2]) <= 60:
                            self.assertEqual(line_numbers(web, told, other), (a, b))

    def test_what_is_told_puts_the_walk_together(self):
        for web in LINE_WEBS:
            for walk in going_in(web, 428, 10):
                told = line_walks(web, walk)
                n, j = line_numbers(web, told, walk)
                self.assertGreaterEqual(n, 1)
                self.assertEqual(n * length(web, told[0]), length(web, walk))
                if abs(j) < 100:
                    self.assertTrue(same(web, walk, joined(power(web, told[0], n), power(web, told[-1], j))))

    def test_great_numbers(self):
        f = still_walk(EVEN, E)
        self.assertEqual(line_numbers(EVEN, (E, f), (0, BOUND, ((0, 1, 0),))), (1, BOUND // 2))
        self.assertEqual(line_numbers(EVEN, (E, f), (0, -BOUND, ())), (0, -BOUND // 2))

    def test_walks_with_other_room(self):
        told = line_walks(TURNED, (1, 0, ((0, -1, 0), (1, 1, 0))))
        with self.assertRaises(NotJoined) as caught:
            line_numbers(TURNED, told, (0, 3, ()))
        self.assertEqual((caught.exception.room, caught.exception.other), (1, 0))


LONG = ((0, 1, 0),) * 24
ONE_WALK = (still_turns, still_walk, line_walks, what_commutes, commuting_sort, greatest_root, has_lone_roots)
TWO_WALKS = (rests_on_line, keeps_line, do_commute, common_powers)


class BoundsTest(unittest.TestCase):
    """The errors of [37], for all functions of linewalks, commuting and roots."""

    WEB = (3, ((0, 0, 2, 2), (0, 1, 2, 3), (1, 1, 2, 2)))

    def raised(self, error, function, *arguments):
        with self.assertRaises(error, msg=(function.__name__, arguments)) as caught:
            function(*arguments)
        return caught.exception

    def test_one_walk(self):
        open_walk, stays = (0, 1, ((1, 1, 2),)), (0, 1, ((1, 1, 3), (1, -1, 0)))
        for function in ONE_WALK + (lambda web, walk: root_for(web, walk, 1), lambda web, walk: root_for(web, walk, 5)):
            self.assertEqual(self.raised(NotClosed, function, self.WEB, open_walk).walk, open_walk)
            self.assertEqual(self.raised(Stays, function, self.WEB, stays).walk, stays)
            self.assertEqual(self.raised(Stays, function, self.WEB, (0, 0, ())).walk, (0, 0, ()))
            function(self.WEB, (0, 0, LONG))
            function(self.WEB, (0, 0, LONG[:-1] + ((0, 1, BOUND),)))
            function(self.WEB, (0, 0, LONG[:-1] + ((0, 1, -BOUND),)))
            self.assertEqual(self.raised(TooMany, function, self.WEB, (0, 0, LONG + LONG[:1])).what, "steps")
            self.assertEqual(self.raised(TooGreat, function, self.WEB, (0, 0, ((0, 1, BOUND + 1),))).what, "turns")
            self.assertEqual(self.raised(TooGreat, function, self.WEB, (0, 0, ((0, 1, -BOUND - 1),))).what, "turns")

    def test_the_plain_walk_counts(self):
        there_and_back = ((0, 1, 0), (0, -1, 0)) * 15
        great = ((0, 1, 2 * BOUND), (0, -1, 0), (0, 1, -2 * BOUND))
        for function in ONE_WALK:
            function(self.WEB, (0, 0, LONG + there_and_back))
            function(self.WEB, (0, 0, great))
            self.raised(TooGreat, function, (1, ((0, 0, 1, 2),)), (0, BOUND // 2 + 1, ((0, 1, 0),)))
            function((1, ((0, 0, 1, 2),)), (0, BOUND // 2, ((0, 1, 0),)))

    def test_great_walks_and_which_error_goes_first(self):
        open_long = (0, 10 * BOUND, LONG + LONG[:1] + ((1, 1, 0),))
        long_great = (0, 0, LONG + ((0, 1, 10 * BOUND),))
        for function in ONE_WALK:
            self.assertEqual(self.raised(NotClosed, function, self.WEB, open_long).walk, open_long)
            self.raised(TooMany, function, self.WEB, long_great)
            # A walk that stays and is too great is too great.
            self.raised(TooGreat, function, self.WEB, (0, 2 * BOUND, ()))

    def test_two_walks(self):
        open_one, open_two = (0, 1, ((1, 1, 2),)), (1, 1, ((1, -1, 2),))
        going, long, great, other = E, (0, 0, LONG + E[2]), (0, 0, ((0, 1, 2 * BOUND),)), (1, 0, ((2, 1, 0),))
        for function in TWO_WALKS:
            for first, second, walk in ((open_one, open_two, open_one), (going, open_two, open_two),
                                        (long, open_one, open_one), ((0, 1, ()), open_two, open_two)):
                self.assertEqual(self.raised(NotClosed, function, self.WEB, first, second).walk, walk)
            for first, second in ((going, other), (long, other), (great, other), ((0, 1, ()), (1, 1, ()))):
                error = self.raised(NotJoined, function, self.WEB, first, second)
                self.assertEqual((error.room, error.other), (0, 1))
            for first, second in ((long, going), (going, long), (great, long), (long, great), ((0, 1, ()), long)):
                self.assertEqual(self.raised(TooMany, function, self.WEB, first, second).what, "steps")
            for first, second in ((great, going), (going, great), ((0, 1, ()), great), ((0, 2 * BOUND, ()), E)):
                self.assertEqual(self.raised(TooGreat, function, self.WEB, first, second).what, "turns")

    def test_which_walks_may_stay(self):
        stays, stays_too = (0, 1, ()), (0, 2, ())
        for function in (rests_on_line, keeps_line):
            self.assertEqual(self.raised(Stays, function, self.WEB, stays, E).walk, stays)
            self.assertEqual(self.raised(Stays, function, self.WEB, stays, stays_too).walk, stays)
            self.assertIs(function(self.WEB, E, stays), False)
            self.assertIs(function(self.WEB, E, stays_too), True)
        self.assertEqual(self.raised(Stays, common_powers, self.WEB, stays, E).walk, stays)
        self.assertEqual(self.raised(Stays, common_powers, self.WEB, E, stays).walk, stays)
        self.assertEqual(self.raised(Stays, common_powers, self.WEB, stays, stays_too).walk, stays)
        self.assertIs(do_commute(self.WEB, stays, stays_too), True)
        self.assertIs(do_commute(self.WEB, E, stays_too), True)
        self.assertIs(do_commute(self.WEB, stays, E), False)

    def test_line_numbers(self):
        told = line_walks(self.WEB, E)
        open_walk = (1, 10 * BOUND, ((1, -1, 2),))
        self.assertEqual(self.raised(NotClosed, line_numbers, self.WEB, told, open_walk).walk, open_walk)
        error = self.raised(NotJoined, line_numbers, self.WEB, told, (1, 10 * BOUND, ()))
        self.assertEqual((error.room, error.other), (0, 1))
        self.raised(TooMany, line_numbers, self.WEB, told, (0, 0, LONG + ((0, 1, 10 * BOUND),)))
        self.raised(TooGreat, line_numbers, self.WEB, told, (0, BOUND + 1, ()))
        self.assertEqual(line_numbers(self.WEB, told, (0, 2, ())), (0, 1))

    def test_root_for_looks_at_the_count_first(self):
        open_walk = (0, 1, ((1, 1, 2),))
        for count in (0, -1, -10 ** 40):
            for walk in (E, open_walk, (0, 1, ()), (0, 0, LONG + LONG)):
                self.assertEqual(self.raised(OutOfRange, root_for, self.WEB, walk, count).value, count)
        self.assertEqual(self.raised(NotClosed, root_for, self.WEB, open_walk, 1).walk, open_walk)
