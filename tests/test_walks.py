import unittest

from tests.samples import (
    ALL_WEBS, BOUND, BRIDGE, LONE, MOST, OTHER_KINDS, STILL, TRIANGLE, TURNING, WEBS, back, closed_in, joined,
    last_room, same, spoilt, walks_in)
from tubewords.errors import NotClosed, NotJoined, TooGreat, TooMany
from tubewords.walks import end_room, is_closed, is_walk, joined_walk, opposite_walk, power_walk


def along(many, turns=0, first=0, room=0):
    """A walk of so many steps over tie 0 on the side 1, in a web in which tie 0 leads from a room to itself."""
    return (room, first, ((0, 1, turns),) * many)


class IsWalkTest(unittest.TestCase):
    def test_walks(self):
        for web in ALL_WEBS:
            for walk in walks_in(web, 1, 20):
                self.assertIs(is_walk(web, walk), True, (web, walk))

    def test_idle_walks(self):
        for web in ALL_WEBS:
            for room in range(-2, 7):
                self.assertIs(is_walk(web, (room, 0, ())), 0 <= room < web[0])

    def test_numbers_of_steps(self):
        for many in (0, 1, 59, 60):
            self.assertIs(is_walk(TURNING, along(many)), True, many)
        for many in (61, 62, 200):
            self.assertIs(is_walk(TURNING, along(many)), False, many)

    def test_numbers_of_turns(self):
        for turns in (0, 1, -1, MOST, -MOST):
            self.assertIs(is_walk(STILL, (0, turns, ())), True)
            self.assertIs(is_walk(TURNING, (0, 0, ((0, 1, turns), (0, 1, 2)))), True)
            self.assertIs(is_walk(TURNING, (0, 0, ((0, 1, 2), (0, 1, turns)))), True)
        for turns in (BOUND, -BOUND, BOUND + 1, -BOUND - 1, BOUND ** 2):
            self.assertIs(is_walk(STILL, (0, turns, ())), False)
            self.assertIs(is_walk(TURNING, (0, 0, ((0, 1, turns), (0, 1, 2)))), False)
            self.assertIs(is_walk(TURNING, (0, 0, ((0, 1, 2), (0, 1, turns)))), False)

    def test_steps_begin_where_the_step_before_ends(self):
        self.assertIs(is_walk(BRIDGE, (0, 0, ((0, 1, 0),))), True)
        self.assertIs(is_walk(BRIDGE, (1, 0, ((0, -1, 0),))), True)
        self.assertIs(is_walk(BRIDGE, (1, 0, ((0, 1, 0),))), False)
        self.assertIs(is_walk(BRIDGE, (0, 0, ((0, -1, 0),))), False)
        self.assertIs(is_walk(BRIDGE, (0, 0, ((0, 1, 0), (0, -1, 0), (0, 1, 0)))), True)
        self.assertIs(is_walk(BRIDGE, (0, 0, ((0, 1, 0), (0, 1, 0)))), False)
        self.assertIs(is_walk(TRIANGLE, (0, 0, ((0, 1, 0), (3, 1, 0), (3, -1, 0), (1, 1, 0), (2, 1, 0)))), True)
        self.assertIs(is_walk(TRIANGLE, (0, 0, ((0, 1, 0), (3, 1, 0), (3, -1, 0), (2, 1, 0), (1, 1, 0)))), False)

    def test_ties_and_sides(self):
        for tie in (-2, -1, 1, 2):
            self.assertIs(is_walk(TURNING, (0, 0, ((tie, 1, 0),))), False, tie)
        for side in (0, 2, -2, 3):
            self.assertIs(is_walk(TURNING, (0, 0, ((0, side, 0),))), False, side)
        self.assertIs(is_walk(STILL, (0, 0, ((0, 1, 0),))), False)

    def test_other_kinds(self):
        others = OTHER_KINDS + (0, 5, (0, 0), (0, 0, (), ()), (0, 0, 0), (0, 0, None), ("0", 0, ()), (0, 0, ((),)),
                                (0, 0, (0, 1, 0)), (0, 0, "abc"), (0, (0,), ()))
        for value in others:
            self.assertIs(is_walk(TURNING, value), False, value)

    def test_true_and_false_are_no_integers(self):
        web = (2, ((0, 1, 1, 1), (0, 1, 1, 1)))
        self.assertIs(is_walk(web, (0, 1, ((1, 1, 1),))), True)
        for value in ((False, 1, ()), (True, 1, ()), (0, True, ()), (0, False, ()), (0, 1, ((True, 1, 1),)),
                      (0, 1, ((False, 1, 1),)), (0, 1, ((1, True, 1),)), (0, 1, ((1, 1, True),)),
                      (0, 1, ((1, 1, False),))):
            self.assertIs(is_walk(web, value), False, value)

    def test_spoilt_walks(self):
        walk = (0, 1, ((0, 1, -4), (0, 1, 5)))
        for path, value in spoilt(walk):
            right = path == (2,) and isinstance(value[2], tuple)
            self.assertIs(is_walk(TURNING, value), right, value)


class EndsTest(unittest.TestCase):
    def test_end_room(self):
        self.assertEqual(end_room(TRIANGLE, (2, 5, ())), 2)
        self.assertEqual(end_room(TRIANGLE, (0, 5, ((0, 1, 3),))), 1)
        self.assertEqual(end_room(TRIANGLE, (0, 5, ((2, -1, 3),))), 2)
        self.assertEqual(end_room(TRIANGLE, (0, 5, ((2, -1, 3), (1, -1, 0), (3, -1, 0)))), 1)

    def test_closed(self):
        self.assertIs(is_closed(TRIANGLE, (2, 5, ())), True)
        self.assertIs(is_closed(TRIANGLE, (0, 5, ((0, 1, 3),))), False)
        self.assertIs(is_closed(TRIANGLE, (0, 5, ((0, 1, 3), (1, 1, 0), (2, 1, 7)))), True)
        self.assertIs(is_closed(TRIANGLE, (0, 5, ((0, 1, 3), (0, -1, 7)))), True)
        self.assertIs(is_closed(TRIANGLE, (1, 0, ((3, 1, 3),))), True)

    def test_many_walks(self):
        for web in ALL_WEBS:
            for walk in walks_in(web, 2, 20):
                self.assertEqual(end_room(web, walk), last_room(web, walk))
                self.assertIs(is_closed(web, walk), last_room(web, walk) == walk[0])


class JoinedTest(unittest.TestCase):
    def test_turns_are_added(self):
        self.assertEqual(joined_walk(STILL, (0, 3, ()), (0, -5, ())), (0, -2, ()))
        self.assertEqual(joined_walk(BRIDGE, (0, 3, ()), (0, 4, ((0, 1, 5),))), (0, 7, ((0, 1, 5),)))
        self.assertEqual(joined_walk(BRIDGE, (0, 3, ((0, 1, 5),)), (1, 4, ())), (0, 3, ((0, 1, 9),)))
        self.assertEqual(joined_walk(BRIDGE, (0, 3, ((0, 1, 5),)), (1, 4, ((0, -1, 6), (0, 1, 7)))),
                         (0, 3, ((0, 1, 9), (0, -1, 6), (0, 1, 7))))

    def test_nothing_is_struck(self):
        self.assertEqual(joined_walk(BRIDGE, (0, 3, ((0, 1, 5),)), (1, -5, ((0, -1, 6),))),
                         (0, 3, ((0, 1, 0), (0, -1, 6))))

    def test_not_joined(self):
        for first, second, room, other in (
                ((0, 0, ()), (1, 0, ()), 0, 1), ((0, 0, ((0, 1, 0),)), (0, 0, ()), 1, 0),
                ((1, 0, ((0, -1, 0),)), (1, 0, ((0, -1, 0),)), 0, 1)):
            with self.assertRaises(NotJoined) as caught:
                joined_walk(BRIDGE, first, second)
            self.assertEqual((caught.exception.room, caught.exception.other), (room, other))

    def test_not_joined_goes_first(self):
        web = (2, ((0, 0, 1, 1),))
        with self.assertRaises(NotJoined):
            joined_walk(web, along(60, first=MOST), (1, MOST, ()))

    def test_too_many_steps(self):
        self.assertEqual(joined_walk(TURNING, along(30, 1), along(30, 1)), (0, 0, ((0, 1, 1),) * 60))
        self.assertEqual(joined_walk(TURNING, along(60, 1), (0, 0, ())), along(60, 1))
        for first, second in ((30, 31), (60, 1), (1, 60), (60, 60)):
            with self.assertRaises(TooMany) as caught:
                joined_walk(TURNING, along(first), along(second))
            self.assertEqual(caught.exception.what, "steps")

    def test_too_great_turns(self):
        self.assertEqual(joined_walk(STILL, (0, MOST - 1, ()), (0, 1, ())), (0, MOST, ()))
        self.assertEqual(joined_walk(STILL, (0, 1 - MOST, ()), (0, -1, ())), (0, -MOST, ()))
        self.assertEqual(joined_walk(STILL, (0, MOST, ()), (0, -MOST, ())), (0, 0, ()))
        for sign in (1, -1):
            for second in ((0, sign, ()), (0, sign * MOST, ())):
                with self.assertRaises(TooGreat) as caught:
                    joined_walk(STILL, (0, sign * MOST, ()), second)
                self.assertEqual(caught.exception.what, "turns")
            with self.assertRaises(TooGreat):
                joined_walk(TURNING, (0, 0, ((0, 1, sign * MOST),)), (0, sign, ((0, 1, 0),)))

    def test_too_many_goes_ahead_of_too_great(self):
        with self.assertRaises(TooMany):
            joined_walk(TURNING, along(30, MOST), along(31, first=1))
        with self.assertRaises(TooGreat):
            joined_walk(TURNING, along(30, MOST), along(30, first=1))

    def test_many_walks(self):
        for web in WEBS:
            for first in walks_in(web, 3, 8):
                for second in walks_in(web, 4, 8):
                    if last_room(web, first) == second[0]:
                        self.assertEqual(joined_walk(web, first, second), joined(first, second))


class OppositeTest(unittest.TestCase):
    def test_opposites(self):
        self.assertEqual(opposite_walk(STILL, (0, 7, ())), (0, -7, ()))
        self.assertEqual(opposite_walk(BRIDGE, (0, 7, ((0, 1, -3),))), (1, 3, ((0, -1, -7),)))
        self.assertEqual(opposite_walk(TRIANGLE, (0, 1, ((0, 1, 2), (3, -1, 3), (1, 1, 4)))),
                         (2, -4, ((1, -1, -3), (3, 1, -2), (0, -1, -1))))

    def test_many_walks(self):
        for web in ALL_WEBS:
            for walk in walks_in(web, 5, 20):
                told = opposite_walk(web, walk)
                self.assertEqual(told, back(web, walk))
                self.assertEqual(opposite_walk(web, told), walk)
                self.assertTrue(same(web, joined(walk, told), (walk[0], 0, ())))

    def test_greatest_walks(self):
        walk = (0, MOST, ((0, 1, -MOST),) * 60)
        self.assertEqual(opposite_walk(TURNING, walk), (0, MOST, ((0, -1, MOST),) * 59 + ((0, -1, -MOST),)))


class PowerTest(unittest.TestCase):
    WALK = (0, 1, ((0, 1, 2), (0, 1, 4)))

    def test_powers(self):
        web = TURNING
        walk = self.WALK
        self.assertEqual(power_walk(web, walk, 0), (0, 0, ()))
        self.assertEqual(power_walk(web, walk, 1), walk)
        self.assertEqual(power_walk(web, walk, 2), (0, 1, ((0, 1, 2), (0, 1, 5), (0, 1, 2), (0, 1, 4))))
        self.assertEqual(power_walk(web, walk, -1), (0, -4, ((0, -1, -2), (0, -1, -1))))
        self.assertEqual(power_walk(web, walk, -2), (0, -4, ((0, -1, -2), (0, -1, -5), (0, -1, -2), (0, -1, -1))))

    def test_powers_of_turns(self):
        for count in (-5, -1, 0, 1, 2, 7):
            self.assertEqual(power_walk(LONE, (3, 6, ()), count), (3, 6 * count, ()))
        self.assertEqual(power_walk(LONE, (2, 0, ()), 10 ** 400), (2, 0, ()))
        self.assertEqual(power_walk(LONE, (2, 1, ()), -MOST), (2, -MOST, ()))

    def test_not_closed(self):
        walk = (0, 0, ((0, 1, 4),))
        for count in (0, 1, -1, 2, 10 ** 9):
            with self.assertRaises(NotClosed) as caught:
                power_walk(BRIDGE, walk, count)
            self.assertEqual(caught.exception.walk, walk)
        self.assertEqual(power_walk(BRIDGE, (0, 1, ((0, 1, 4), (0, -1, 3))), 1), (0, 1, ((0, 1, 4), (0, -1, 3))))

    def test_too_many_steps(self):
        self.assertEqual(len(power_walk(TURNING, self.WALK, 30)[2]), 60)
        self.assertEqual(len(power_walk(TURNING, self.WALK, -30)[2]), 60)
        self.assertEqual(power_walk(TURNING, along(1), 60), along(60))
        for walk, count in ((self.WALK, 31), (self.WALK, -31), (along(1), 61), (along(60), 2), (along(1), 10 ** 400),
                            (along(1), -10 ** 400)):
            with self.assertRaises(TooMany) as caught:
                power_walk(TURNING, walk, count)
            self.assertEqual(caught.exception.what, "steps")

    def test_too_great_turns(self):
        self.assertEqual(power_walk(STILL, (0, 3, ()), MOST // 3), (0, MOST, ()))
        for walk, count in (((0, 2, ()), BOUND // 2), ((0, -2, ()), BOUND // 2), ((0, 2, ()), -BOUND // 2),
                            ((0, MOST, ()), 2), ((0, MOST, ((0, 1, 1),)), 2), ((0, -1, ((0, 1, -MOST),)), -2)):
            with self.assertRaises(TooGreat) as caught:
                power_walk(TURNING, walk, count)
            self.assertEqual(caught.exception.what, "turns")
        self.assertEqual(power_walk(TURNING, (0, MOST, ((0, 1, 1),)), 1), (0, MOST, ((0, 1, 1),)))

    def test_too_many_goes_ahead_of_too_great(self):
        with self.assertRaises(TooMany):
            power_walk(TURNING, (0, MOST, ((0, 1, 1),)), 61)
        with self.assertRaises(TooGreat):
            power_walk(TURNING, (0, MOST, ((0, 1, 1),)), 60)

    def test_many_walks(self):
        for web in WEBS:
            for walk in closed_in(web, 6, 6):
                self.assertEqual(power_walk(web, walk, 3), joined(walk, walk, walk))
                self.assertEqual(power_walk(web, walk, -2), joined(back(web, walk), back(web, walk)))
