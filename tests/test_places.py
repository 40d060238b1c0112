import unittest

from tests.samples import (
    ALL_WEBS, BRIDGE, DOUBLING, EVEN, FULL, KLEIN, LONE, MIRROR, MOST, OTHER_KINDS, PAIR, STILL, TRIANGLE, TURNING,
    WEBS, apart, back, ends, joined, last_room, led, place_by_words, places_up_to, plain_by_words, spoilt,
    to_place, walks_in, ways)
from tubewords.errors import NotJoined, OutOfRange, TooMany
from tubewords.places import is_place, led_place, neighbours, place_counts, place_of, place_room, walk_to

STEEP = (1, ((0, 0, 1, 1000),))


class IsPlaceTest(unittest.TestCase):
    def test_places(self):
        for web in ALL_WEBS:
            for base in range(web[0]):
                for place in places_up_to(web, base, 2):
                    self.assertIs(is_place(web, place), True, (web, place))

    def test_bases(self):
        for web in ALL_WEBS:
            for base in range(-2, 7):
                self.assertIs(is_place(web, (base, ())), 0 <= base < web[0])

    def test_numbers_of_ways(self):
        for many in (0, 1, 59, 60):
            self.assertIs(is_place(TURNING, (0, ((1, 0, 1),) * many)), True, many)
        for many in (61, 62, 200):
            self.assertIs(is_place(TURNING, (0, ((1, 0, 1),) * many)), False, many)

    def test_turns_of_ways(self):
        for r in range(-3, 6):
            self.assertIs(is_place(TURNING, (0, ((r, 0, 1),))), r in (0, 1), r)
            self.assertIs(is_place(TURNING, (0, ((r, 0, -1),))), r in (0, 1, 2), r)
            self.assertIs(is_place(MIRROR, (0, ((r, 0, 1),))), r in (0, 1), r)
            self.assertIs(is_place(TURNING, (0, ((1, 0, 1), (r, 0, -1)))), r in (1, 2), r)
            self.assertIs(is_place(TURNING, (0, ((1, 0, -1), (r, 0, 1)))), r == 1, r)
            self.assertIs(is_place(TURNING, (0, ((1, 0, 1), (r, 0, 1)))), r in (0, 1), r)

    def test_ways_do_not_go_back(self):
        two = (2, ((0, 1, 2, 3), (0, 1, 2, 3)))
        self.assertIs(is_place(two, (0, ((0, 0, 1), (0, 1, -1)))), True)
        self.assertIs(is_place(two, (0, ((0, 1, 1), (0, 1, -1)))), False)
        self.assertIs(is_place(two, (0, ((0, 1, 1), (1, 1, -1)))), True)
        self.assertIs(is_place(two, (0, ((0, 1, 1), (1, 1, -1), (0, 1, 1)))), False)

    def test_ways_follow_one_another(self):
        self.assertIs(is_place(BRIDGE, (0, ((0, 0, 1),))), True)
        self.assertIs(is_place(BRIDGE, (0, ((0, 0, -1),))), False)
        self.assertIs(is_place(BRIDGE, (1, ((0, 0, 1),))), False)
        self.assertIs(is_place(BRIDGE, (0, ((0, 0, 1), (0, 0, 1)))), False)
        self.assertIs(is_place(TRIANGLE, (0, ((0, 0, 1), (0, 1, 1), (0, 2, 1)))), True)
        self.assertIs(is_place(TRIANGLE, (0, ((0, 0, 1), (0, 2, 1), (0, 1, 1)))), False)

    def test_ties_and_sides(self):
        for way in ((0, 1, 1), (0, -1, 1), (0, 5, 1), (0, 0, 0), (0, 0, 2), (0, 0, -2)):
            self.assertIs(is_place(TURNING, (0, (way,))), False, way)
        self.assertIs(is_place(STILL, (0, ((0, 0, 1),))), False)

    def test_other_kinds(self):
        others = OTHER_KINDS + (0, (0,), (0, (), ()), (0, 0), (0, None), (0, "ab"), ("0", ()), (0, ((),)),
                                (0, ((0, 0),)), (0, ((0, 0, 1, 0),)), (0, (0, 0, 1)), ((), 0))
        for value in others:
            self.assertIs(is_place(TURNING, value), False, value)

    def test_true_and_false_are_no_integers(self):
        web = (2, ((0, 1, 2, 2), (0, 1, 2, 2)))
        self.assertIs(is_place(web, (0, ((1, 1, 1),))), True)
        for value in ((False, ()), (True, ()), (0, ((True, 1, 1),)), (0, ((False, 1, 1),)), (0, ((1, True, 1),)),
                      (0, ((1, False, 1),)), (0, ((1, 1, True),))):
            self.assertIs(is_place(web, value), False, value)

    def test_spoilt_places(self):
        place = (0, ((1, 0, 1), (0, 0, 1)))
        for path, value in spoilt(place):
            right = path == (1,) and isinstance(value[1], tuple)
            self.assertIs(is_place(TURNING, value), right, value)


class PlaceOfTest(unittest.TestCase):
    def test_place_room(self):
        self.assertEqual(place_room(TRIANGLE, (2, ())), 2)
        self.assertEqual(place_room(TRIANGLE, (0, ((1, 0, 1),))), 1)
        self.assertEqual(place_room(TRIANGLE, (0, ((0, 2, -1),))), 2)
        self.assertEqual(place_room(TRIANGLE, (0, ((0, 2, -1), (0, 1, -1), (1, 3, -1)))), 1)

    def test_place_of(self):
        self.assertEqual(place_of(TURNING, (0, 5, ((0, 1, 1),))), (0, ((1, 0, 1),)))
        self.assertEqual(place_of(TURNING, (0, 7, ())), (0, ()))
        self.assertEqual(place_of(TURNING, (0, 0, ((0, 1, 3), (0, -1, 4)))), (0, ()))
        self.assertEqual(place_of(MIRROR, (0, -5, ((0, 1, 2), (0, -1, 4)))), (0, ((1, 0, 1), (2, 0, -1))))

    def test_walk_to(self):
        self.assertEqual(walk_to(TRIANGLE, (2, ())), (2, 0, ()))
        self.assertEqual(walk_to(TURNING, (0, ((1, 0, 1),))), (0, 1, ((0, 1, 0),)))
        self.assertEqual(walk_to(TURNING, (0, ((1, 0, 1), (2, 0, -1), (0, 0, -1)))),
                         (0, 1, ((0, 1, 2), (0, -1, 0), (0, -1, 0))))

    def test_many_walks(self):
        for web in ALL_WEBS:
            for walk in walks_in(web, 31, 30):
                place = place_of(web, walk)
                self.assertEqual(place, place_by_words(web, walk))
                self.assertIs(is_place(web, place), True)
                self.assertEqual(place_room(web, place), last_room(web, walk))
                last = plain_by_words(web, walk)
                self.assertEqual(joined(walk_to(web, place), (last_room(web, walk), (last[2][-1][2] if last[2] else last[1]), ())), last)

    def test_many_places(self):
        for web in WEBS:
            for base in range(web[0]):
                for place in places_up_to(web, base, 2):
                    self.assertEqual(walk_to(web, place), to_place(place))
                    self.assertEqual(place_of(web, walk_to(web, place)), place)

    def test_place_of_raises_nothing(self):
        walk = (0, MOST, ((0, 1, MOST),) * 60)
        self.assertEqual(place_of(STEEP, walk), (0, ((0, 0, 1),) * 60))
        self.assertEqual(place_of((1, ((0, 0, 10, 1000),)), (0, -MOST, ((0, 1, 3),))), (0, ((1, 0, 1),)))


class LedPlaceTest(unittest.TestCase):
    def test_led_place(self):
        self.assertEqual(led_place(TURNING, (0, 1, ()), (0, ())), (0, ()))
        self.assertEqual(led_place(TURNING, (0, 1, ()), (0, ((0, 0, 1),))), (0, ((1, 0, 1),)))
        self.assertEqual(led_place(TURNING, (0, 1, ()), (0, ((1, 0, 1), (1, 0, -1)))), (0, ((0, 0, 1), (1, 0, -1))))
        self.assertEqual(led_place(BRIDGE, (1, 0, ((0, -1, 0),)), (0, ((0, 0, 1),))), (1, ()))
        self.assertEqual(led_place(BRIDGE, (1, 2, ((0, -1, 0),)), (0, ((1, 0, 1),))), (1, ((2, 0, -1), (1, 0, 1))))

    def test_many_walks(self):
        for web in WEBS:
            for walk in walks_in(web, 32, 8, 5):
                there = back(web, walk)
                places = places_up_to(web, last_room(web, walk), 1)
                for place in places + [place_by_words(web, joined(there, walk, joined(there, walk)))]:
                    told = led_place(web, walk, place)
                    self.assertEqual(told, led(web, walk, place))
                    self.assertEqual(told[0], walk[0])
                    self.assertEqual(led_place(web, there, told), place)
                    self.assertEqual(led_place(web, plain_by_words(web, walk), place), told)

    def test_distances_stay(self):
        for web in WEBS:
            for walk in walks_in(web, 33, 3, 5):
                places = places_up_to(web, last_room(web, walk), 2)[:12]
                for first in places:
                    for second in places:
                        moved = apart(led_place(web, walk, first), led_place(web, walk, second))
                        self.assertEqual(moved, apart(first, second))

    def test_not_joined(self):
        for walk, place, room, other in (((0, 0, ()), (1, ()), 0, 1), ((0, 0, ((0, 1, 0),)), (0, ()), 1, 0)):
            with self.assertRaises(NotJoined) as caught:
                led_place(BRIDGE, walk, place)
            self.assertEqual((caught.exception.room, caught.exception.other), (room, other))

    def test_too_many_steps(self):
        far = (0, ((1, 0, 1),) * 60)
        self.assertEqual(led_place(TURNING, (0, 1, ()), far), led(TURNING, (0, 1, ()), far))
        self.assertEqual(len(led_place(TURNING, (0, 1, ()), far)[1]), 60)
        self.assertEqual(len(led_place(TURNING, (0, 1, ((0, 1, 1),) * 30), (0, ((1, 0, 1),) * 30))[1]), 60)
        for walk, place in (((0, 1, ((0, 1, 0),)), far), ((0, 1, ((0, 1, 0),) * 31), (0, ((1, 0, 1),) * 30))):
            with self.assertRaises(TooMany) as caught:
                led_place(TURNING, walk, place)
            self.assertEqual(caught.exception.what, "steps")
        self.assertEqual(led_place(TURNING, (0, 0, ((0, 1, 0),) * 5), (0, ((0, 0, -1),) * 60)), (0, ((0, 0, -1),) * 55))

    def test_not_joined_goes_ahead_of_too_many(self):
        web = (2, ((0, 0, 1, 1), (1, 1, 1, 1)))
        with self.assertRaises(NotJoined):
            led_place(web, (0, 0, ((0, 1, 0),) * 60), (1, ((0, 1, 1),) * 60))

    def test_great_numbers(self):
        self.assertEqual(led_place(STEEP, (0, MOST, ((0, 1, MOST),) * 30), (0, ((0, 0, 1),) * 30)), (0, ((0, 0, 1),) * 60))


class NeighboursTest(unittest.TestCase):
    def test_neighbours(self):
        self.assertEqual(neighbours(TURNING, (0, ())), tuple(
            (0, (way,)) for way in ((0, 0, 1), (1, 0, 1), (0, 0, -1), (1, 0, -1), (2, 0, -1))))
        at = ((1, 0, 1),)
        self.assertEqual(neighbours(TURNING, (0, at)), (
            (0, at + ((0, 0, 1),)), (0, at + ((1, 0, 1),)), (0, ()), (0, at + ((1, 0, -1),)), (0, at + ((2, 0, -1),))))
        self.assertEqual(neighbours(BRIDGE, (1, ((2, 0, -1),))), ((1, ()), (1, ((2, 0, -1), (1, 0, 1)))))
        self.assertEqual(neighbours(STILL, (0, ())), ())

    def test_neighbours_by_words(self):
        for web in WEBS:
            for base in range(web[0]):
                for place in places_up_to(web, base, 2)[:20]:
                    walk = to_place(place)
                    room = last_room(web, walk)
                    expected = []
                    for t, s in ways(web, room):
                        for r in range(abs(ends(web, t, s)[2])):
                            expected.append(place_by_words(web, joined(walk, (room, r, ((t, s, 0),)))))
                    told = neighbours(web, place)
                    self.assertEqual(told, tuple(expected))
                    self.assertEqual(len(told), sum(abs(ends(web, t, s)[2]) for t, s in ways(web, room)))
                    self.assertEqual(len(set(told)), len(told))
                    for other in told:
                        self.assertEqual(apart(place, other), 1)
                        self.assertIn(place, neighbours(web, other))

    def test_too_many_places(self):
        for ties in (((0, 0, 250, 250),), ((0, 0, -499, 1),), ((0, 0, 100, 100), (0, 0, -100, 200))):
            self.assertEqual(len(neighbours((1, ties), (0, ()))), 500)
        for ties in (((0, 0, 250, 251),), ((0, 0, 500, -1),), ((0, 0, 100, 101), (0, 0, -100, 200)), ((0, 0, 1000, 1000),)):
            with self.assertRaises(TooMany) as caught:
                neighbours((1, ties), (0, ()))
            self.assertEqual(caught.exception.what, "places")
        web = (2, ((0, 1, 501, 500),))
        self.assertEqual(len(neighbours(web, (1, ()))), 500)
        self.assertEqual(len(neighbours(web, (0, ((4, 0, 1),)))), 500)
        with self.assertRaises(TooMany):
            neighbours(web, (0, ()))

    def test_too_many_steps(self):
        self.assertEqual(len(neighbours(TURNING, (0, ((1, 0, 1),) * 59))), 5)
        with self.assertRaises(TooMany) as caught:
            neighbours(TURNING, (0, ((1, 0, 1),) * 60))
        self.assertEqual(caught.exception.what, "steps")
        with self.assertRaises(TooMany) as caught:
            neighbours((1, ((0, 0, 250, 251),)), (0, ((1, 0, 1),) * 60))
        self.assertEqual(caught.exception.what, "places")

    def test_a_place_of_60_ways_from_which_one_only_goes_back(self):
        web = (2, ((0, 0, 1, 1), (0, 1, 2, -1)))
        ways_there = ((0, 0, 1),) * 59
        self.assertEqual(neighbours(web, (0, ways_there + ((1, 1, 1),))), ((0, ways_there),))


class PlaceCountsTest(unittest.TestCase):
    def test_counts(self):
        self.assertEqual(place_counts(TURNING, 0, 4), (1, 5, 20, 80, 320))
        self.assertEqual(place_counts(DOUBLING, 0, 3), (1, 3, 6, 12))
        self.assertEqual(place_counts(KLEIN, 0, 3), (1, 2, 2, 2))
        self.assertEqual(place_counts(BRIDGE, 0, 5), (1, 2, 4, 4, 8, 8))
        self.assertEqual(place_counts(BRIDGE, 1, 5), (1, 3, 3, 6, 6, 12))
        self.assertEqual(place_counts(STILL, 0, 3), (1, 0, 0, 0))
        self.assertEqual(place_counts((2, ((0, 1, 1, -1),)), 1, 3), (1, 1, 0, 0))

    def test_places_are_counted(self):
        for web, size in ((EVEN, 4), (MIRROR, 4), (TRIANGLE, 3), (PAIR, 3), (FULL, 3), (LONE, 2), (DOUBLING, 6)):
            for base in range(web[0]):
                places = places_up_to(web, base, size)
                expected = tuple(len([place for place in places if len(place[1]) == n]) for n in range(size + 1))
                self.assertEqual(place_counts(web, base, size), expected)

    def test_sizes(self):
        self.assertEqual(place_counts(TURNING, 0, 0), (1,))
        self.assertEqual(place_counts(TURNING, 0, 60), (1,) + tuple(5 * 4 ** n for n in range(60)))
        great = (1, ((0, 0, 1000, 1000),) * 7)
        self.assertEqual(place_counts(great, 0, 60)[60], 14000 * 13999 ** 59)
        for size in (-1, -2, 61, 62, 1000, -10 ** 30):
            with self.assertRaises(OutOfRange) as caught:
                place_counts(TURNING, 0, size)
            self.assertEqual(caught.exception.value, size)
