import random
import unittest

from tests.samples import (
    ALL_WEBS, BRIDGE, FULL, KLEIN, LONE, PIECES, STILL, TRIANGLE, TURNING, ends, joined, last_room, same)
from tubewords.cores import core_of, home_of
from tubewords.webs import piece_of

# Rooms 0, 1, 2, 3 hang on one another like a chain; all ends at the rooms 0 and 1 are 1 or -1.
CHAIN = (4, ((0, 1, 1, 5), (2, 1, 7, -1), (2, 3, 2, 3)))


def core_by_words(web, room):
    rooms = sorted(piece_of(web, room))
    ties = [t for t, tie in enumerate(web[1]) if tie[0] in rooms]
    homes = {}
    while True:
        idle = []
        for v in rooms:
            at = [(t, s) for t in ties for s in (1, -1) if ends(web, t, s)[0] == v]
            if len(at) == 1 and abs(ends(web, *at[0])[2]) == 1:
                idle.append((v, at[0]))
        if not idle:
            return tuple(rooms), tuple(ties), homes
        v, (t, s) = min(idle)
        homes[v] = (t, s)
        rooms.remove(v)
        ties.remove(t)


def home_by_words(web, room):
    _, _, homes = core_by_words(web, room)
    if room not in homes:
        return ((room, 0, ()), 1)
    t, s = homes[room]
    _, x, own, other = ends(web, t, s)
    walk, k = home_by_words(web, x)
    return (joined((room, 0, ((t, s, 0),)), walk), (other if own == 1 else -other) * k)


def some_web(chance):
    rooms = chance.randint(1, 5)
    ties = []
    for _ in range(chance.randint(0, 5)):
        p, q = (chance.choice((1, -1, 1, -1, 2, -3, 4)) for _ in range(2))
        ties.append((chance.randrange(rooms), chance.randrange(rooms), p, q))
    return (rooms, tuple(ties))


class CoreTest(unittest.TestCase):
    def test_cores(self):
        self.assertEqual(core_of(STILL, 0), ((0,), ()))
        self.assertEqual(core_of(LONE, 3), ((3,), ()))
        self.assertEqual(core_of(TURNING, 0), ((0,), (0,)))
        self.assertEqual(core_of(BRIDGE, 1), ((0, 1), (0,)))
        self.assertEqual(core_of((2, ((0, 1, 3, 1),)), 0), ((0,), ()))
        self.assertEqual(core_of((2, ((0, 1, 3, 1),)), 1), ((0,), ()))
        self.assertEqual(core_of((2, ((0, 1, 1, 6), (1, 1, 4, 4))), 0), ((1,), (1,)))
        self.assertEqual(core_of((2, ((0, 1, -1, 6), (1, 1, 4, 4))), 0), ((1,), (1,)))

    def test_a_tie_from_a_room_to_itself_has_two_ends(self):
        for ties in (((0, 0, 1, 1),), ((0, 0, 1, -1),), ((0, 0, 1, 5),)):
            self.assertEqual(core_of((1, ties), 0), ((0,), (0,)))
        self.assertEqual(core_of((2, ((0, 1, 1, 1), (0, 0, 1, 1))), 0), ((0,), (1,)))
        self.assertEqual(core_of((2, ((0, 1, 1, 1), (0, 0, 1, 1), (1, 1, 1, 2))), 0), ((0, 1), (0, 1, 2)))

    def test_the_least_idle_room_goes_first(self):
        for p, q in ((1, 1), (1, -1), (-1, 1), (-1, -1)):
            self.assertEqual(core_of((2, ((0, 1, p, q),)), 0), ((1,), ()))
        self.assertEqual(core_of((3, ((0, 1, 1, 1), (1, 2, 1, 1))), 0), ((2,), ()))
        self.assertEqual(core_of((3, ((2, 0, 1, 1), (0, 1, 1, 1))), 0), ((2,), ()))
        # Room 1 goes first, and then room 0 becomes idle ahead of room 2.
        self.assertEqual(core_of((3, ((0, 1, 5, 1), (0, 2, 1, 1))), 0), ((2,), ()))
        self.assertEqual(core_of((3, ((0, 1, 5, 2), (0, 2, 1, 1))), 0), ((0, 1), (0,)))

    def test_rooms_become_idle_one_after_the_other(self):
        self.assertEqual(core_of(CHAIN, 0), ((2, 3), (2,)))
        web = (5, ((0, 1, 1, 2), (1, 2, 1, 2), (2, 3, 1, 2), (3, 4, 1, 2), (4, 4, 1, 2)))
        self.assertEqual(core_of(web, 0), ((4,), (4,)))

    def test_ends_that_are_not_1(self):
        self.assertEqual(core_of((2, ((0, 1, 2, 2),)), 0), ((0, 1), (0,)))
        self.assertEqual(core_of((2, ((0, 1, 1, 1), (0, 1, 1, 1))), 0), ((0, 1), (0, 1)))

    def test_other_pieces_do_not_matter(self):
        web = (5, ((1, 3, 1, 2), (0, 2, 3, 1), (4, 4, 1, 1)))
        self.assertEqual([core_of(web, room) for room in range(5)],
                         [((0,), ()), ((3,), ()), ((0,), ()), ((3,), ()), ((4,), (2,))])
        self.assertEqual(core_of(PIECES, 0), ((0,), (3,)))

    def test_many_webs(self):
        chance = random.Random(321)
        webs = list(ALL_WEBS) + [CHAIN] + [some_web(chance) for _ in range(300)]
        for web in webs:
            for room in range(web[0]):
                rooms, ties, _ = core_by_words(web, room)
                self.assertEqual(core_of(web, room), (rooms, ties), web)


class HomeTest(unittest.TestCase):
    def test_examples_of_the_document(self):
        self.assertEqual(home_of((2, ((0, 1, 3, 1),)), 1), ((1, 0, ((0, -1, 0),)), 3))
        self.assertEqual(home_of((2, ((0, 1, 1, 6), (1, 1, 4, 4))), 0), ((0, 0, ((0, 1, 0),)), 6))

    def test_rooms_of_the_core(self):
        for web, room in ((STILL, 0), (LONE, 2), (TURNING, 0), (BRIDGE, 1), (FULL, 4), (TRIANGLE, 2), (KLEIN, 0)):
            self.assertEqual(home_of(web, room), ((room, 0, ()), 1))
        self.assertEqual(home_of((2, ((0, 1, 3, 1),)), 0), ((0, 0, ()), 1))

    def test_signs(self):
        self.assertEqual(home_of((2, ((0, 1, -1, 6), (1, 1, 4, 4))), 0), ((0, 0, ((0, 1, 0),)), -6))
        self.assertEqual(home_of((2, ((0, 1, -1, -6), (1, 1, 4, 4))), 0), ((0, 0, ((0, 1, 0),)), 6))
        self.assertEqual(home_of((2, ((0, 1, 1, -6), (1, 1, 4, 4))), 0), ((0, 0, ((0, 1, 0),)), -6))

    def test_homes_over_other_rooms(self):
        self.assertEqual(home_of(CHAIN, 0), ((0, 0, ((0, 1, 0), (1, -1, 0))), -35))
        self.assertEqual(home_of(CHAIN, 1), ((1, 0, ((1, -1, 0),)), -7))
        web = (5, ((0, 1, 1, 1000), (1, 2, -1, 1000), (2, 3, 1, 1000), (3, 4, 1, 1000), (4, 4, 1, 2)))
        self.assertEqual(home_of(web, 0), ((0, 0, ((0, 1, 0), (1, 1, 0), (2, 1, 0), (3, 1, 0))), -10 ** 12))

    def test_many_webs(self):
        chance = random.Random(322)
        webs = list(ALL_WEBS) + [CHAIN] + [some_web(chance) for _ in range(300)]
        for web in webs:
            for room in range(web[0]):
                walk, k = home_of(web, room)
                self.assertEqual((walk, k), home_by_words(web, room), web)
                end = last_room(web, walk)
                self.assertIn(end, core_of(web, room)[0])
                self.assertTrue(same(web, joined((room, 1, ()), walk), joined(walk, (end, k, ()))))
