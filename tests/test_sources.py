import random
import unittest

from tests.samples import (
    ALL_WEBS, BRIDGE, FULL, LONE, PAIR, PIECES, STILL, TRIANGLE, TURNING, back, ends, joined, last_room)
from tubewords.errors import NotInOne
from tubewords.sources import first_way, rings_at, sources_at
from tubewords.webs import piece_of, ways_out

# Room 0 meets room 2 over tie 1 and room 1 over tie 3; the ties 0, 2, 4 and 5 are left for rings.
MIXED = (4, ((1, 2, 2, 3), (2, 0, 1, 4), (0, 0, 5, 6), (0, 1, 7, 1), (1, 0, 2, 2), (2, 2, 3, 3)))


def met_by_words(web, room):
    """The rooms in the order in which they are met, with the crossings of their first ways, and the tree ties."""
    order, crossings, tree = [room], {room: []}, []
    i = 0
    while i < len(order):
        for t, s in ways_out(web, order[i]):
            w = ends(web, t, s)[1]
            if w not in crossings:
                order.append(w)
                crossings[w] = crossings[order[i]] + [(t, s)]
                tree.append(t)
        i += 1
    return order, crossings, tree


def straight(room, crossings):
    return (room, 0, tuple((t, s, 0) for t, s in crossings))


class FirstWayTest(unittest.TestCase):
    def test_first_ways(self):
        self.assertEqual(first_way(STILL, 0, 0), (0, 0, ()))
        self.assertEqual(first_way(BRIDGE, 0, 1), (0, 0, ((0, 1, 0),)))
        self.assertEqual(first_way(BRIDGE, 1, 0), (1, 0, ((0, -1, 0),)))
        self.assertEqual(first_way(TRIANGLE, 0, 2), (0, 0, ((2, -1, 0),)))
        self.assertEqual(first_way(MIXED, 0, 2), (0, 0, ((1, -1, 0),)))
        self.assertEqual(first_way(MIXED, 0, 1), (0, 0, ((3, 1, 0),)))

    def test_the_room_that_was_met_first_meets(self):
        # Both room 1 and room 2 lead to room 3; room 2 is met ahead of room 1, as its tie comes first.
        web = (4, ((0, 2, 1, 1), (0, 1, 1, 1), (1, 3, 1, 1), (2, 3, 1, 1)))
        self.assertEqual(first_way(web, 0, 3), (0, 0, ((0, 1, 0), (3, 1, 0))))

    def test_parallel_ties(self):
        web = (2, ((1, 0, 1, 2), (0, 1, 1, 3)))
        self.assertEqual(first_way(web, 0, 1), (0, 0, ((0, -1, 0),)))
        self.assertEqual(first_way(web, 1, 0), (1, 0, ((0, 1, 0),)))

    def test_all_rooms(self):
        for web in ALL_WEBS + (MIXED,):
            for room in range(web[0]):
                order, crossings, _ = met_by_words(web, room)
                for other in order:
                    self.assertEqual(first_way(web, room, other), straight(room, crossings[other]))

    def test_rooms_of_another_piece(self):
        for web in ALL_WEBS + (MIXED,):
            for room in range(web[0]):
                for other in range(web[0]):
                    if other not in piece_of(web, room):
                        with self.assertRaises(NotInOne) as caught:
                            first_way(web, room, other)
                        self.assertEqual(caught.exception.room, other)


class RingsTest(unittest.TestCase):
    def test_rings(self):
        self.assertEqual(rings_at(STILL, 0), ())
        self.assertEqual(rings_at(BRIDGE, 1), ())
        self.assertEqual(rings_at(TURNING, 0), ((0, 0, ((0, 1, 0),)),))
        self.assertEqual(rings_at(LONE, 2), ())

    def test_nothing_is_struck(self):
        # The tie 5 leads from room 2 to itself; the ring goes there and back over tie 1.
        self.assertEqual(rings_at(MIXED, 0), (
            (0, 0, ((3, 1, 0), (0, 1, 0), (1, 1, 0))),
            (0, 0, ((2, 1, 0),)),
            (0, 0, ((3, 1, 0), (4, 1, 0))),
            (0, 0, ((1, -1, 0), (5, 1, 0), (1, 1, 0)))))
        web = (2, ((0, 1, 1, 1), (1, 1, 2, 2), (1, 1, 3, 3)))
        self.assertEqual(rings_at(web, 0), ((0, 0, ((0, 1, 0), (1, 1, 0), (0, -1, 0))),
                                            (0, 0, ((0, 1, 0), (2, 1, 0), (0, -1, 0)))))
        web = (3, ((0, 1, 1, 1), (1, 2, 1, 1), (2, 2, 5, 5)))
        self.assertEqual(rings_at(web, 0), ((0, 0, ((0, 1, 0), (1, 1, 0), (2, 1, 0), (1, -1, 0), (0, -1, 0))),))

    def test_a_way_that_a_ring_goes_back(self):
        web = (3, ((0, 1, 1, 1), (1, 2, 1, 1), (1, 2, 1, 1)))
        self.assertEqual(rings_at(web, 0), ((0, 0, ((0, 1, 0), (2, 1, 0), (1, -1, 0), (0, -1, 0))),))

    def test_all_rooms(self):
        for web in ALL_WEBS + (MIXED,):
            for room in range(web[0]):
                order, crossings, tree = met_by_words(web, room)
                expected = []
                for t, (v, w, _, _) in enumerate(web[1]):
                    if v in order and t not in tree:
                        expected.append(joined(straight(room, crossings[v]), (v, 0, ((t, 1, 0),)),
                                               back(web, straight(room, crossings[w]))))
                told = rings_at(web, room)
                self.assertEqual(told, tuple(expected))
                self.assertTrue(all(last_room(web, ring) == room for ring in told))

    def test_many_webs(self):
        chance = random.Random(311)
        for _ in range(60):
            rooms = chance.randint(1, 5)
            web = (rooms, tuple((chance.randrange(rooms), chance.randrange(rooms), 1, 2)
                                for _ in range(chance.randint(0, 7))))
            for room in range(rooms):
                piece = piece_of(web, room)
                ties = sum(tie[0] in piece for tie in web[1])
                rings = rings_at(web, room)
                self.assertEqual(len(rings), ties - len(piece) + 1)
                order, crossings, tree = met_by_words(web, room)
                self.assertEqual([len(crossings[w]) for w in order], sorted(len(crossings[w]) for w in order))
                self.assertEqual([len(first_way(web, room, w)[2]) for w in order], [len(crossings[w]) for w in order])


class SourcesTest(unittest.TestCase):
    def test_sources(self):
        self.assertEqual(sources_at(STILL, 0), ((0, 1, ()),))
        self.assertEqual(sources_at(LONE, 2), ((2, 1, ()),))
        self.assertEqual(sources_at(TURNING, 0), ((0, 1, ()), (0, 0, ((0, 1, 0),))))
        self.assertEqual(sources_at(BRIDGE, 1), ((1, 1, ()), (1, 0, ((0, -1, 1), (0, 1, 0)))))

    def test_rooms_stand_in_the_order_in_which_they_are_met(self):
        told = sources_at(MIXED, 0)
        self.assertEqual(told[:3], ((0, 1, ()), (0, 0, ((1, -1, 1), (1, 1, 0))), (0, 0, ((3, 1, 1), (3, -1, 0)))))
        self.assertEqual(told[3:], rings_at(MIXED, 0))
        self.assertEqual(sources_at(MIXED, 3), ((3, 1, ()),))

    def test_all_rooms(self):
        for web in ALL_WEBS + (MIXED,):
            for room in range(web[0]):
                order, crossings, _ = met_by_words(web, room)
                ways_there = [straight(room, crossings[other]) for other in order]
                turnings = [joined(way, (last_room(web, way), 1, ()), back(web, way)) for way in ways_there]
                self.assertEqual(sources_at(web, room), tuple(turnings) + rings_at(web, room))

    def test_pieces(self):
        for room in range(5):
            for source in sources_at(PIECES, room):
                rooms = [source[0]] + [ends(PIECES, t, s)[1] for t, s, _ in source[2]]
                self.assertTrue(all(other in piece_of(PIECES, room) for other in rooms))
        self.assertEqual(len(sources_at(FULL, 3)), 5 + 3)
        self.assertEqual(len(sources_at(PAIR, 0)), 2 + 2)
