import random
import unittest
from math import gcd

from tests.samples import (
    ALL_WEBS, BRIDGE, DOUBLING, EVEN, FULL, KLEIN, LONE, MIRROR, PIECES, STILL, TRIANGLE, TURNING, back, ends, joined,
    last_room, same, shrunk, some_closed)
from tubewords.centres import centre_of, central_turns, demands_of, even_turns, is_level, is_upright, stray_source
from tubewords.cores import core_of, home_of
from tubewords.shares import share_of, toll_of
from tubewords.sources import first_way, rings_at, sources_at
from tubewords.webs import piece_of

HALF = (2, ((0, 1, 1, 6), (1, 1, 4, 4)))
THIRD = (2, ((0, 1, 1, 2), (1, 1, 3, 3)))
TREE = (2, ((0, 1, 3, 1),))
MINUS = (1, ((0, 0, 4, -4),))
RING = (3, ((0, 1, 1, -1), (1, 2, -1, 1), (2, 0, 1, 1)))
TWISTED = (3, ((0, 1, 1, -1), (1, 2, 1, 1), (2, 0, 1, 1)))


def some_web(chance, ends_used=(1, -1, 1, 2, -2, 3, 4, 6)):
    rooms = chance.choice((1, 1, 2, 2, 3, 4))
    ties = []
    for _ in range(chance.randint(0, 4)):
        p = chance.choice(ends_used)
        q = chance.choice((p, -p, p, chance.choice(ends_used)))
        ties.append((chance.randrange(rooms), chance.randrange(rooms), p, q))
    return (rooms, tuple(ties))


def some_webs(seed, many):
    chance = random.Random(seed)
    return list(ALL_WEBS) + [HALF, THIRD, TREE, MINUS, RING, TWISTED] + [some_web(chance) for _ in range(many)]


def up_to_sign(web, room, turns, walk):
    """Whether turns of a room commute with a closed walk up to sign."""
    seen = shrunk(web, joined(back(web, walk), (room, turns, ()), walk))
    return seen in ((room, turns, ()), (room, -turns, ()))


def do_commute(web, first, second):
    return same(web, joined(first, second), joined(second, first))


class LevelTest(unittest.TestCase):
    def test_level_and_upright(self):
        for web, level, upright in ((STILL, True, True), (TURNING, False, False), (EVEN, True, True),
                                    (KLEIN, True, False), (MINUS, True, False), (BRIDGE, True, True),
                                    (DOUBLING, False, False), (MIRROR, False, False), (LONE, True, True)):
            self.assertIs(is_level(web, 0), level)
            self.assertIs(is_upright(web, 0), upright)

    def test_each_room_of_a_piece(self):
        for web in some_webs(401, 100):
            for room in range(web[0]):
                shares = [share_of(web, ring) for ring in rings_at(web, room)]
                self.assertIs(is_level(web, room), all(share in ((1, 1), (-1, 1)) for share in shares))
                self.assertIs(is_upright(web, room), all(share == (1, 1) for share in shares))
                for other in piece_of(web, room):
                    self.assertIs(is_level(web, other), is_level(web, room))
                    self.assertIs(is_upright(web, other), is_upright(web, room))

    def test_other_pieces_do_not_matter(self):
        web = (3, ((0, 0, 2, 3), (1, 1, 2, -2), (2, 2, 5, 5)))
        self.assertEqual([is_level(web, room) for room in range(3)], [False, True, True])
        self.assertEqual([is_upright(web, room) for room in range(3)], [False, False, True])
        self.assertEqual([even_turns(web, room) for room in range(3)], [None, 2, 5])

    def test_many_closed_walks(self):
        chance = random.Random(402)
        for web in some_webs(403, 40):
            for room in range(web[0]):
                for _ in range(5):
                    share = share_of(web, some_closed(chance, web, 6, room))
                    if is_level(web, room):
                        self.assertIn(share, ((1, 1), (-1, 1)))
                    if is_upright(web, room):
                        self.assertEqual(share, (1, 1))


class EvenTurnsTest(unittest.TestCase):
    def test_examples_of_the_document(self):
        self.assertFalse(is_level(TURNING, 0))
        self.assertEqual(share_of(TURNING, rings_at(TURNING, 0)[0]), (3, 2))
        self.assertEqual(even_turns((1, ((0, 0, 4, 4),)), 0), 4)
        self.assertEqual([even_turns(TREE, room) for room in (0, 1)], [1, 1])
        self.assertEqual([even_turns(HALF, room) for room in (1, 0)], [4, 2])
        self.assertEqual([even_turns(THIRD, room) for room in (0, 1)], [3, 3])

    def test_rooms_that_are_not_level(self):
        for web in (TURNING, DOUBLING, MIRROR, TRIANGLE, FULL):
            for room in range(web[0]):
                self.assertIsNone(even_turns(web, room))
                self.assertIsNone(demands_of(web, room))
                self.assertIsNone(central_turns(web, room))

    def test_demands(self):
        self.assertEqual(demands_of(STILL, 0), ())
        self.assertEqual(demands_of(TREE, 1), ())
        self.assertEqual(demands_of(HALF, 1), (((1, 1), 4), ((1, -1), 4)))
        self.assertEqual(demands_of(HALF, 0), demands_of(HALF, 1))
        self.assertEqual(demands_of(BRIDGE, 0), (((0, 1), 2), ((0, -1), 2)))
        self.assertEqual(demands_of(BRIDGE, 1), (((0, 1), 3), ((0, -1), 3)))
        web = (3, ((1, 2, 6, 4), (0, 1, 2, 3), (2, 2, 5, -5)))
        self.assertEqual(demands_of(web, 0), (((0, 1), 4), ((0, -1), 4), ((1, 1), 2), ((1, -1), 2),
                                              ((2, 1), 20), ((2, -1), 20)))
        self.assertEqual(even_turns(web, 0), 20)

    def test_first_ways_keep_to_the_core(self):
        # Room 3 is taken away, so that the first way from 0 to 2 leads over room 1.
        web = (4, ((0, 1, 2, 2), (1, 2, 3, 3), (2, 0, 5, 5), (0, 3, 7, 1)))
        self.assertEqual(core_of(web, 0), ((0, 1, 2), (0, 1, 2)))
        self.assertEqual(dict(demands_of(web, 0)), {(0, 1): 2, (0, -1): 2, (1, 1): 6, (1, -1): 15, (2, 1): 5, (2, -1): 5})

    def test_demands_by_their_definition(self):
        for web in some_webs(404, 100):
            for room in range(web[0]):
                if not is_level(web, room):
                    continue
                home, k = home_of(web, room)
                v = last_room(web, home)
                rooms, ties = core_of(web, room)
                alone = (web[0], tuple(tie if t in ties else (0, 0, 1, 1) for t, tie in enumerate(web[1])))
                expected = []
                for t in ties:
                    for s in (1, -1):
                        u = ends(web, t, s)[0]
                        way = first_way(alone, v, u)
                        self.assertTrue(all(step[0] in ties for step in way[2]))
                        expected.append(((t, s), toll_of(web, joined(way, (u, 0, ((t, s, 0),))))[0]))
                self.assertEqual(demands_of(web, room), tuple(expected))

    def test_which_turns_commute_up_to_sign(self):
        for web in some_webs(405, 80):
            for room in range(web[0]):
                even = even_turns(web, room)
                sources = sources_at(web, room)
                for turns in range(-13, 14):
                    fits = all(up_to_sign(web, room, turns, source) for source in sources)
                    expected = turns == 0 if even is None else turns % even == 0
                    self.assertEqual(fits, expected, (web, room, turns))

    def test_great_even_turns(self):
        web = (5, ((0, 1, 997, 991), (1, 2, 983, 977), (2, 3, 971, 967), (3, 4, 953, 947)))
        self.assertEqual(even_turns(web, 0), 997 * 983 * 971 * 953)
        self.assertEqual(central_turns(web, 4), 947 * 967 * 977 * 991)
        self.assertIsNone(stray_source(web, 0, even_turns(web, 0) * 10 ** 400))
        self.assertIsNotNone(stray_source(web, 0, even_turns(web, 0) * 10 ** 400 + 1))


class CentralTurnsTest(unittest.TestCase):
    def test_central_turns(self):
        self.assertEqual(central_turns(STILL, 0), 1)
        self.assertEqual(central_turns(EVEN, 0), 2)
        self.assertIsNone(central_turns(KLEIN, 0))
        self.assertIsNone(central_turns(MINUS, 0))
        self.assertEqual(even_turns(MINUS, 0), 4)
        self.assertEqual([central_turns(HALF, room) for room in (0, 1)], [2, 4])

    def test_the_least_that_commutes(self):
        for web in some_webs(406, 80):
            for room in range(web[0]):
                central = central_turns(web, room)
                for turns in range(1, 25):
                    commutes = all(do_commute(web, (room, turns, ()), source) for source in sources_at(web, room))
                    self.assertEqual(commutes, central is not None and turns % central == 0, (web, room, turns))
                if central is not None:
                    self.assertIsNone(stray_source(web, room, central))

    def test_stray_sources(self):
        self.assertEqual(stray_source(TURNING, 0, 1), (0, 0, ((0, 1, 0),)))
        self.assertIsNone(stray_source(TURNING, 0, 0))
        self.assertIsNone(stray_source(EVEN, 0, -4))
        self.assertEqual(stray_source(EVEN, 0, -3), (0, 0, ((0, 1, 0),)))
        self.assertEqual(stray_source(BRIDGE, 0, 1), (0, 0, ((0, 1, 1), (0, -1, 0))))
        self.assertIsNone(stray_source(BRIDGE, 0, 2))
        self.assertIsNone(stray_source(LONE, 3, 7))
        # The sign is turned over, so that no turns commute.
        self.assertEqual(stray_source(KLEIN, 0, 5), (0, 0, ((0, 1, 0),)))

    def test_the_first_stray_source(self):
        for web in some_webs(407, 60):
            for room in range(web[0]):
                for turns in (0, 1, -2, 3, 4, -6, 12):
                    stray = [source for source in sources_at(web, room)
                             if not do_commute(web, (room, turns, ()), source)]
                    self.assertEqual(stray_source(web, room, turns), stray[0] if stray else None)


class CentreTest(unittest.TestCase):
    def test_examples_of_the_document(self):
        self.assertEqual(centre_of(TURNING, 0), ("none", ()))
        self.assertEqual(centre_of((1, ((0, 0, 4, 4),)), 0), ("turns", ((0, 4, ()),)))
        self.assertEqual(centre_of(TREE, 0), ("all", ((0, 1, ()),)))
        self.assertEqual(centre_of(TREE, 1), ("all", ((1, 0, ((0, -1, 1), (0, 1, 0))),)))
        self.assertEqual(centre_of(HALF, 1), ("turns", ((1, 4, ()),)))
        self.assertEqual(centre_of(HALF, 0), ("turns", ((0, 0, ((0, 1, 4), (0, -1, 0))),)))
        self.assertEqual(centre_of(THIRD, 1), ("turns", ((1, 3, ()),)))
        self.assertEqual(centre_of(THIRD, 0), ("turns", ((0, 0, ((0, 1, 3), (0, -1, 0))),)))
        self.assertEqual(shrunk(THIRD, centre_of(THIRD, 0)[1][0])[2][0][:2], (0, 1))

    def test_all(self):
        self.assertEqual(centre_of(STILL, 0), ("all", ((0, 1, ()),)))
        self.assertEqual(centre_of(LONE, 2), ("all", ((2, 1, ()),)))
        self.assertEqual(centre_of((1, ((0, 0, -1, -1),)), 0), ("all", ((0, 1, ()), (0, 0, ((0, 1, 0),)))))
        walk = (0, 0, ((0, 1, 0), (1, 1, 0), (2, 1, 0)))
        self.assertEqual(share_of(RING, walk), (1, 1))
        self.assertEqual(centre_of(RING, 1)[0], "all")
        # The rooms 2 and 1 are met over the ties 2 and 0, so that the ring goes over tie 1.
        self.assertEqual(centre_of(RING, 0), ("all", ((0, 1, ()), (0, 0, ((0, 1, 0), (1, 1, 0), (2, 1, 0))))))
        web = (2, ((0, 1, 1, 1), (0, 1, 1, 1)))
        self.assertEqual(centre_of(web, 1), ("all", ((1, 1, ()), (1, 0, ((0, -1, 0), (1, 1, 0))))))

    def test_rounds(self):
        self.assertEqual(centre_of(KLEIN, 0), ("rounds", ((0, 0, ((0, 1, 0), (0, 1, 0))),)))
        kind, walks = centre_of(TWISTED, 2)
        self.assertEqual(kind, "rounds")
        ring = rings_at(TWISTED, 2)[0]
        self.assertEqual(walks, (joined(ring, ring),))

    def test_rounds_brought_to_other_rooms(self):
        web = (2, ((0, 1, 1, 5), (1, 1, 1, -1)))
        self.assertEqual(centre_of(web, 0), ("rounds", ((0, 0, ((0, 1, 0), (1, 1, 0), (1, 1, 0), (0, -1, 0))),)))
        web = (2, ((0, 1, 1, 5), (1, 1, -1, -1)))
        self.assertEqual(centre_of(web, 0), ("all", ((0, 0, ((0, 1, 1), (0, -1, 0))),
                                                     (0, 0, ((0, 1, 0), (1, 1, 0), (0, -1, 0))))))

    def test_the_round_is_that_of_the_core_alone(self):
        # Room 3 is taken away; from room 0 the round begins with the lower tie.
        web = (4, ((0, 3, 5, 1), (2, 0, 1, 1), (0, 1, 1, 1), (1, 2, 1, 1)))
        kind, walks = centre_of(web, 3)
        self.assertEqual(kind, "all")
        inner = rings_at((4, ((3, 3, 1, 1),) + web[1][1:]), 0)[0]
        self.assertEqual(walks[1], joined((3, 0, ((0, -1, 0),)), inner, (0, 0, ((0, 1, 0),))))

    def test_almost_rings(self):
        self.assertEqual(centre_of((1, ((0, 0, 1, 1), (0, 0, 1, 1))), 0)[0], "turns")
        self.assertEqual(centre_of((1, ((0, 0, 1, -1), (0, 0, 1, 1))), 0)[0], "none")
        self.assertEqual(centre_of((1, ((0, 0, 2, 2),)), 0), ("turns", ((0, 2, ()),)))
        self.assertEqual(centre_of((1, ((0, 0, 2, -2),)), 0), ("none", ()))
        self.assertEqual(centre_of((1, ((0, 0, 1, 2),)), 0), ("none", ()))
        # As many ties as rooms, all ends 1, but room 1 has one end that is 2, or there is an end too many.
        self.assertEqual(centre_of((2, ((0, 1, 1, 2), (0, 1, 1, 2))), 0)[0], "turns")
        self.assertEqual(centre_of((2, ((0, 1, 1, 2), (0, 1, 1, 1))), 0)[0], "none")
        self.assertEqual(centre_of((2, ((0, 1, 2, 1), (0, 0, 1, 1))), 0)[0], "all")
        self.assertEqual(centre_of((2, ((0, 1, 2, 2), (0, 0, 1, 1))), 0)[0], "turns")
        self.assertEqual(centre_of(BRIDGE, 0), ("turns", ((0, 2, ()),)))

    def test_centre_walks_commute_with_all(self):
        chance = random.Random(408)
        kinds = {}
        for web in some_webs(409, 150):
            for room in range(web[0]):
                kind, walks = centre_of(web, room)
                kinds[kind] = kinds.get(kind, 0) + 1
                self.assertEqual(len(walks), {"all": len(walks), "rounds": 1, "turns": 1, "none": 0}[kind])
                for walk in walks:
                    self.assertEqual((walk[0], last_room(web, walk)), (room, room))
                    self.assertNotEqual(shrunk(web, walk), (room, 0, ()))
                    for source in sources_at(web, room):
                        self.assertTrue(do_commute(web, walk, source), (web, room, walk))
                pair = [some_closed(chance, web, 5, room) for _ in range(2)]
                if kind == "all":
                    self.assertTrue(do_commute(web, *pair))
        self.assertEqual(sorted(kinds), ["all", "none", "rounds", "turns"])

    def test_nothing_else_is_in_the_centre(self):
        chance = random.Random(410)
        for web in some_webs(411, 80):
            for room in range(web[0]):
                kind, walks = centre_of(web, room)
                walk = some_closed(chance, web, 4, room)
                central = all(do_commute(web, walk, source) for source in sources_at(web, room))
                if kind == "none":
                    self.assertEqual(central, shrunk(web, walk) == (room, 0, ()))
                elif kind == "turns" and central:
                    home, k = home_of(web, room)
                    seen = shrunk(web, joined(back(web, home), walk, home))
                    self.assertEqual((seen[2], seen[1] % even_turns(web, last_room(web, home))), ((), 0))
                elif kind == "all":
                    self.assertTrue(central)

    def test_turns_of_rooms_outside_of_the_core(self):
        for web in some_webs(412, 150):
            for room in range(web[0]):
                home, k = home_of(web, room)
                if is_level(web, room) and k != 1:
                    inner = even_turns(web, last_room(web, home))
                    self.assertEqual(even_turns(web, room), inner // gcd(inner, k))
        self.assertEqual([even_turns(PIECES, room) for room in range(5)], [None, None, 1, None, 3])
