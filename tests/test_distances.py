import unittest

from tests.samples import (
    DOUBLING, LONE, PAIR, PIECES, TRIANGLE, TURNING, apart, back, joined, places_up_to, plain_by_words, to_place)
from tubewords.distances import distance_of, middle_of, way_between
from tubewords.errors import NotInOne
from tubewords.places import neighbours

BASE = (0, ())
A = (0, ((1, 0, 1),))
B = (0, ((1, 0, 1), (0, 0, 1)))
C = (0, ((1, 0, 1), (2, 0, -1), (1, 0, 1)))
D = (0, ((0, 0, 1), (0, 0, 1)))


def some_places(web, base, size, many):
    """Some of all places of a base with at most so many ways, spread over all of them."""
    places = places_up_to(web, base, size)
    return places[:5] + places[5::max(1, len(places) // many)]


class DistanceTest(unittest.TestCase):
    def test_distances(self):
        for first, second, distance in ((BASE, BASE, 0), (BASE, A, 1), (A, BASE, 1), (A, B, 1), (B, C, 3), (C, B, 3),
                                        (A, A, 0), (C, D, 5), (B, D, 4), (BASE, C, 3), (C, A, 2), (C, C, 0)):
            self.assertEqual(distance_of(TURNING, first, second), distance, (first, second))

    def test_equal_ways_behind_unlike_ones_do_not_count(self):
        first = (0, ((0, 0, 1), (1, 0, 1), (1, 0, 1)))
        second = (0, ((1, 0, 1), (1, 0, 1), (1, 0, 1)))
        self.assertEqual(distance_of(TURNING, first, second), 6)

    def test_each_part_of_a_way_counts(self):
        web = (1, ((0, 0, 2, 2), (0, 0, 2, 2)))
        for way in ((1, 0, 1), (0, 1, 1), (0, 0, -1)):
            self.assertEqual(distance_of(web, (0, (way,)), (0, ((0, 0, 1),))), 2)

    def test_steps_of_the_walk_between(self):
        for web, base in ((TURNING, 0), (DOUBLING, 0), (TRIANGLE, 1), (PAIR, 0)):
            places = some_places(web, base, 3, 12)
            for first in places:
                for second in places:
                    between = joined(back(web, to_place(first)), to_place(second))
                    self.assertEqual(distance_of(web, first, second), len(plain_by_words(web, between)[2]))

    def test_great_distances(self):
        self.assertEqual(distance_of(TURNING, (0, ((1, 0, 1),) * 60), (0, ((0, 0, 1),) * 60)), 120)
        self.assertEqual(distance_of(TURNING, (0, ((1, 0, 1),) * 60), (0, ((1, 0, 1),) * 59)), 1)

    def test_unlike_bases(self):
        for first, second, room in (((0, ()), (1, ()), 1), ((3, ()), (0, ()), 0), ((1, ((0, 0, -1),)), (3, ()), 3)):
            with self.assertRaises(NotInOne) as caught:
                distance_of(PIECES, first, second)
            self.assertEqual(caught.exception.room, room)


class WayTest(unittest.TestCase):
    def test_ways(self):
        self.assertEqual(way_between(TURNING, A, A), (A,))
        self.assertEqual(way_between(TURNING, BASE, BASE), (BASE,))
        self.assertEqual(way_between(TURNING, BASE, B), (BASE, A, B))
        self.assertEqual(way_between(TURNING, B, BASE), (B, A, BASE))
        self.assertEqual(way_between(TURNING, B, C), (B, A, (0, C[1][:2]), C))
        self.assertEqual(way_between(TURNING, D, A), (D, (0, D[1][:1]), BASE, A))

    def test_rows_of_joined_places(self):
        for web, base in ((TURNING, 0), (DOUBLING, 0), (TRIANGLE, 1), (PAIR, 0)):
            places = some_places(web, base, 3, 10)
            for first in places:
                for second in places:
                    way = way_between(web, first, second)
                    self.assertIsInstance(way, tuple)
                    self.assertEqual((way[0], way[-1]), (first, second))
                    self.assertEqual(len(way), apart(first, second) + 1)
                    self.assertEqual(len(set(way)), len(way))
                    for one, other in zip(way, way[1:]):
                        self.assertIn(other, neighbours(web, one))

    def test_long_ways(self):
        way = way_between(TURNING, (0, ((1, 0, 1),) * 60), (0, ((0, 0, 1),) * 60))
        self.assertEqual((len(way), way[60]), (121, BASE))

    def test_unlike_bases(self):
        for first, second, room in (((0, ()), (1, ()), 1), ((3, ()), (0, ()), 0)):
            with self.assertRaises(NotInOne) as caught:
                way_between(LONE, first, second)
            self.assertEqual(caught.exception.room, room)


class MiddleTest(unittest.TestCase):
    def test_middles(self):
        self.assertEqual(middle_of(TURNING, A, A, A), A)
        self.assertEqual(middle_of(TURNING, A, A, D), A)
        self.assertEqual(middle_of(TURNING, BASE, B, C), A)
        self.assertEqual(middle_of(TURNING, B, C, D), A)
        self.assertEqual(middle_of(TURNING, D, C, B), A)
        self.assertEqual(middle_of(TURNING, BASE, B, D), BASE)
        self.assertEqual(middle_of(TURNING, BASE, A, B), A)

    def test_the_middle_stands_on_all_three_ways(self):
        for web, base in ((TURNING, 0), (DOUBLING, 0), (TRIANGLE, 1), (PAIR, 0)):
            places = some_places(web, base, 3, 5)
            for first in places:
                for second in places:
                    for third in places:
                        middle = middle_of(web, first, second, third)
                        on_all = [place for place in way_between(web, first, second)
                                  if place in way_between(web, second, third) and place in way_between(web, first, third)]
                        self.assertEqual(on_all, [middle])
                        far = apart(first, second) + apart(first, third) - apart(second, third)
                        self.assertEqual(2 * apart(middle, first), far)

    def test_unlike_bases(self):
        for places, room in ((((0, ()), (1, ()), (2, ())), 1), (((0, ()), (0, ()), (2, ())), 2),
                             (((3, ()), (3, ()), (0, ())), 0), (((0, ()), (1, ()), (0, ())), 1)):
            with self.assertRaises(NotInOne) as caught:
                middle_of(LONE, *places)
            self.assertEqual(caught.exception.room, room)
