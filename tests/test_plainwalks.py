import unittest

from tests.samples import (
    ALL_WEBS, BOUND, BRIDGE, FULL, KLEIN, LONE, MIRROR, MOST, STILL, TRIANGLE, TURNING, WEBS, ends,
    is_plain_by_words, joined, last_room, numbers, plain_by_words, same, walks_in)
from tubewords.errors import TooGreat
from tubewords.plainwalks import are_equal, is_plain, plain_moves, plain_walk, reach_of
from tubewords.walks import moved_walk

ONES = (1, ((0, 0, 1, 1),))
STEEP = (1, ((0, 0, 1, 1000),))


def moves_by_words(web, walk):
    """The plain moves, each step of [8] being done on the whole walk."""
    moves = []
    kept = 0
    while kept < len(walk[2]):
        ks = numbers(walk)
        t, s, _ = walk[2][kept]
        ahead = ends(web, t, s)[2]
        m = (ks[kept] - ks[kept] % abs(ahead)) // ahead
        if m:
            moves.append(("carry", kept + 1, m))
            walk = moved_walk(web, walk, (moves[-1],))
        if kept and numbers(walk)[kept] == 0 and walk[2][kept - 1][:2] == (t, -s):
            moves.append(("strike", kept))
            walk = moved_walk(web, walk, (moves[-1],))
            kept -= 1
        else:
            kept += 1
    return tuple(moves)


class PlainTest(unittest.TestCase):
    def test_examples_of_the_document(self):
        self.assertEqual(plain_walk(TURNING, (0, 5, ((0, 1, 1),))), (0, 1, ((0, 1, 7),)))
        self.assertEqual(plain_moves(TURNING, (0, 5, ((0, 1, 1),))), (("carry", 1, 2),))
        self.assertEqual(plain_walk(TURNING, (0, 0, ((0, 1, 3), (0, -1, 4)))), (0, 6, ()))
        self.assertEqual(plain_moves(TURNING, (0, 0, ((0, 1, 3), (0, -1, 4)))), (("carry", 2, 1), ("strike", 1)))

    def test_numbers_below_0(self):
        self.assertEqual(plain_walk(TURNING, (0, -5, ((0, 1, 1),))), (0, 1, ((0, 1, -8),)))
        self.assertEqual(plain_moves(TURNING, (0, -5, ((0, 1, 1),))), (("carry", 1, -3),))
        self.assertEqual(plain_walk(MIRROR, (0, -5, ((0, 1, 1),))), (0, 1, ((0, 1, 10),)))
        self.assertEqual(plain_moves(MIRROR, (0, -5, ((0, 1, 1),))), (("carry", 1, 3),))
        self.assertEqual(plain_walk(MIRROR, (0, 5, ((0, 1, 1),))), (0, 1, ((0, 1, -5),)))
        self.assertEqual(plain_walk(MIRROR, (0, -2, ((0, -1, 1),))), (0, 1, ((0, -1, 3),)))
        self.assertEqual(plain_walk(KLEIN, (0, -1, ((0, -1, 0),))), (0, 0, ((0, -1, 1),)))

    def test_turns_alone(self):
        for turns in (0, 1, -1, 5000, MOST, -MOST):
            self.assertIs(is_plain(STILL, (0, turns, ())), True)
            self.assertEqual(plain_walk(STILL, (0, turns, ())), (0, turns, ()))
            self.assertEqual(plain_moves(LONE, (3, turns, ())), ())

    def test_is_plain(self):
        for turns in range(-4, 6):
            self.assertIs(is_plain(TURNING, (0, turns, ((0, 1, -7),))), turns in (0, 1), turns)
            self.assertIs(is_plain(TURNING, (0, turns, ((0, -1, 700),))), turns in (0, 1, 2), turns)
            self.assertIs(is_plain(MIRROR, (0, turns, ((0, 1, -7),))), turns in (0, 1), turns)
            self.assertIs(is_plain(TURNING, (0, 0, ((0, 1, turns), (0, -1, 0)))), turns in (1, 2), turns)
            self.assertIs(is_plain(TURNING, (0, 0, ((0, 1, turns), (0, 1, 0)))), turns in (0, 1), turns)
        two = (2, ((0, 1, 2, 3), (0, 1, 2, 3)))
        self.assertIs(is_plain(two, (0, 0, ((0, 1, 0), (1, -1, 0)))), True)
        self.assertIs(is_plain(two, (0, 0, ((1, 1, 0), (1, -1, 0)))), False)
        self.assertIs(is_plain(two, (0, 1, ((0, 1, 1), (0, -1, 0)))), True)
        self.assertIs(is_plain(two, (0, 1, ((0, 1, 1), (0, -1, 1), (0, 1, 0), (0, -1, 5)))), False)

    def test_what_is_kept_is_looked_at_again_by_its_last_step_alone(self):
        walk = (0, 1, ((0, 1, 0), (0, 1, 3), (0, -1, 0), (0, -1, 4)))
        self.assertEqual(plain_walk(TURNING, walk), (0, 1, ((0, 1, 2), (0, -1, 4))))
        self.assertEqual(plain_moves(TURNING, walk), (("carry", 3, 1), ("strike", 2)))
        nested = (0, 0, ((0, 1, 0), (0, 1, 0), (0, -1, 0), (0, -1, 0)))
        self.assertEqual(plain_moves(TURNING, nested), (("strike", 2), ("strike", 1)))
        self.assertEqual(plain_walk(TURNING, nested), (0, 0, ()))

    def test_many_walks(self):
        for web in ALL_WEBS:
            for walk in walks_in(web, 11, 40):
                told = plain_walk(web, walk)
                self.assertEqual(told, plain_by_words(web, walk), (web, walk))
                self.assertTrue(same(web, walk, told))
                self.assertIs(is_plain(web, told), True)
                self.assertIs(is_plain(web, walk), is_plain_by_words(web, walk), (web, walk))
                self.assertEqual(plain_walk(web, told), told)
                self.assertEqual(plain_moves(web, told), ())

    def test_plain_moves_lead_to_the_plain_walk(self):
        for web in WEBS:
            for walk in walks_in(web, 12, 30):
                moves = plain_moves(web, walk)
                self.assertEqual(moved_walk(web, walk, moves), plain_by_words(web, walk))
                self.assertEqual(moves, moves_by_words(web, walk))

    def test_long_walks(self):
        for web in (TURNING, TRIANGLE, FULL):
            for walk in walks_in(web, 13, 4, 60):
                self.assertEqual(plain_walk(web, walk), plain_by_words(web, walk))

    def test_plain_walk_too_great(self):
        self.assertEqual(plain_walk(ONES, (0, MOST, ((0, 1, 0),))), (0, 0, ((0, 1, MOST),)))
        self.assertEqual(plain_walk(ONES, (0, -MOST, ((0, 1, 0),))), (0, 0, ((0, 1, -MOST),)))
        long = ((0, 1, 0),) * 60
        self.assertEqual(plain_walk(STEEP, (0, MOST // 1000 ** 60, long)),
                         (0, 0, long[:-1] + ((0, 1, MOST // 1000 ** 60 * 1000 ** 60),)))
        for sign in (1, -1):
            for web, walk in ((ONES, (0, sign * MOST, ((0, 1, sign),))),
                              (STEEP, (0, sign * BOUND // 1000, ((0, 1, 0),))),
                              (STEEP, (0, sign * BOUND // 1000 ** 60, long))):
                with self.assertRaises(TooGreat) as caught:
                    plain_walk(web, walk)
                self.assertEqual(caught.exception.what, "turns")

    def test_plain_walk_looks_at_what_it_returns_alone(self):
        self.assertEqual(plain_walk(STEEP, (0, MOST, ((0, 1, 0), (0, -1, 0)))), (0, MOST, ()))
        self.assertEqual(plain_walk(STEEP, (0, -MOST, ((0, 1, 0), (0, -1, 0)))), (0, -MOST, ()))

    def test_plain_moves_too_great(self):
        self.assertEqual(plain_moves(ONES, (0, MOST, ((0, 1, 0),))), (("carry", 1, MOST),))
        self.assertEqual(plain_moves(ONES, (0, -MOST, ((0, 1, 0),))), (("carry", 1, -MOST),))
        wide = (1, ((0, 0, 1000, 1),))
        self.assertEqual(plain_moves(wide, (0, 999, ((0, 1, 0), (0, -1, BOUND - 1000)))), (("strike", 1),))
        for sign in (1, -1):
            for web, walk in ((ONES, (0, sign * MOST, ((0, 1, sign),))),
                              (STEEP, (0, sign * MOST, ((0, 1, 0), (0, -1, 0)))),
                              (STEEP, (0, sign * BOUND // 1000, ((0, 1, 0), (0, -1, 0))))):
                with self.assertRaises(TooGreat) as caught:
                    plain_moves(web, walk)
                self.assertEqual(caught.exception.what, "turns")
        with self.assertRaises(TooGreat):
            plain_moves(wide, (0, 999, ((0, 1, 0), (0, -1, BOUND - 999))))
        self.assertEqual(plain_moves(STEEP, (0, BOUND // 1000 - 1, ((0, 1, 0), (0, -1, 0)))),
                         (("carry", 1, BOUND // 1000 - 1), ("carry", 2, BOUND // 1000 - 1), ("strike", 1)))

    def test_moves_that_are_too_great_on_the_way_alone(self):
        # Number 2 becomes -10 ** 300 by the carry; behind the strike all is in bounds again.
        web = (1, ((0, 0, 1000, 1),))
        walk = (0, 999, ((0, 1, -1), (0, -1, 1000 - BOUND)))
        self.assertEqual(plain_walk(web, walk), (0, 999 - BOUND, ()))
        with self.assertRaises(TooGreat):
            plain_moves(web, walk)
        self.assertEqual(plain_moves(web, (0, 999, ((0, 1, -1), (0, -1, 1001 - BOUND)))), (("carry", 2, -1), ("strike", 1)))


class EqualTest(unittest.TestCase):
    def test_are_equal(self):
        self.assertIs(are_equal(TURNING, (0, 2, ((0, 1, 0),)), (0, 0, ((0, 1, 3),))), True)
        self.assertIs(are_equal(TURNING, (0, 2, ((0, 1, 0),)), (0, 0, ((0, 1, 2),))), False)
        self.assertIs(are_equal(TURNING, (0, 3, ((0, 1, 0),)), (0, 0, ((0, 1, 3),))), False)
        self.assertIs(are_equal(BRIDGE, (0, 4, ()), (0, 0, ((0, 1, 6), (0, -1, 0)))), True)

    def test_unlike_rooms(self):
        self.assertIs(are_equal(LONE, (0, 0, ()), (1, 0, ())), False)
        self.assertIs(are_equal(LONE, (2, 5, ()), (2, 5, ())), True)
        self.assertIs(are_equal(BRIDGE, (0, 0, ((0, 1, 0),)), (0, 0, ())), False)
        self.assertIs(are_equal(BRIDGE, (0, 0, ()), (1, 0, ())), False)

    def test_many_walks(self):
        for web in WEBS:
            walks = walks_in(web, 14, 14, 4)
            walks += [plain_by_words(web, walk) for walk in walks]
            for first in walks:
                for second in walks:
                    self.assertIs(are_equal(web, first, second), same(web, first, second), (web, first, second))

    def test_however_great(self):
        walk = (0, MOST, ((0, 1, MOST),) * 60)
        self.assertIs(are_equal(STEEP, walk, walk), True)
        self.assertIs(are_equal(STEEP, walk, (0, MOST, ((0, 1, MOST),) * 59 + ((0, 1, MOST - 1),))), False)
        self.assertIs(are_equal(STEEP, (0, MOST, ((0, 1, MOST),)), (0, MOST - 1, ((0, 1, MOST),))), False)
        self.assertIs(are_equal(STEEP, (0, MOST, ((0, 1, -MOST),)), (0, MOST - 1, ((0, 1, 1000 - MOST),))), True)

    def test_equal_ones_may_be_put_for_equal_ones(self):
        for web in WEBS:
            for first in walks_in(web, 15, 6, 4):
                for second in walks_in(web, 16, 6, 4):
                    if last_room(web, first) == second[0]:
                        other = joined(plain_walk(web, first), plain_walk(web, second))
                        self.assertIs(are_equal(web, joined(first, second), other), True)


class ReachTest(unittest.TestCase):
    def test_reach_of(self):
        self.assertEqual(reach_of(STILL, (0, 0, ())), 4)
        self.assertEqual(reach_of(STILL, (0, -7, ())), 18)
        self.assertEqual(reach_of(ONES, (0, 0, ((0, 1, 0),))), 8)
        self.assertEqual(reach_of(TURNING, (0, 1, ((0, 1, -5),))), 2 * (5 + 3) * 3)
        self.assertEqual(reach_of(MIRROR, (0, -6, ((0, 1, 5), (0, -1, 2)))), 2 * (6 + 3) * 9)
        self.assertEqual(reach_of((1, ((0, 0, -7, 3),)), (0, 0, ((0, 1, 0),))), 2 * 7 * 7)
        self.assertEqual(reach_of((1, ((0, 0, 3, -7),)), (0, 0, ((0, 1, 0),))), 2 * 7 * 7)

    def test_ties_that_are_not_crossed_do_not_count(self):
        self.assertEqual(reach_of(TRIANGLE, (0, 4, ())), 2 * (4 + 2))
        self.assertEqual(reach_of(TRIANGLE, (0, 4, ((0, 1, 1),))), 2 * (4 + 3) * 3)
        self.assertEqual(reach_of(TRIANGLE, (0, 4, ((0, 1, 1), (1, 1, 0)))), 2 * (4 + 6) * 36)

    def test_however_great(self):
        self.assertEqual(reach_of(STEEP, (0, MOST, ((0, -1, 1),) * 60)), 2 * (MOST + 1000) * 1000 ** 60)

    def test_the_walk_is_taken_as_it_is_passed(self):
        walk = (0, 0, ((0, 1, 0), (0, -1, 0)))
        self.assertEqual(reach_of(TURNING, walk), 2 * 3 * 9)

    def test_plain_walks_are_not_greater(self):
        for web in WEBS:
            for walk in walks_in(web, 17, 30):
                plain = plain_walk(web, walk)
                self.assertLess(abs(numbers(plain)[-1]), reach_of(web, walk))
                for number in numbers(plain)[:-1]:
                    self.assertTrue(0 <= number <= 999)
