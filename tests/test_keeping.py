import unittest

from tests.samples import (
    BOUND, BRIDGE, DOUBLING, EVEN, KLEIN, LONE, MIRROR, MOST, PAIR, PIECES, STILL, TRIANGLE, TURNING, apart, back,
    closed_in, ends, is_plain_by_words, joined, last_room, least_passing, led, places_up_to, plain_by_words, same,
    shrunk, to_place)
from tubewords.errors import NotClosed, NotInOne, NotJoined, OutOfRange, TooGreat, TooMany
from tubewords.keeping import (
    keeping_number, keeping_walk, keeps_place, kept_counts, kept_turns, line_places, nearest_kept)

BASE = (0, ())
A = (0, ((1, 0, 1),))
STEEP = (1, ((0, 0, 1, 1000),))
SMALL = ((TURNING, 0, 3), (DOUBLING, 0, 4), (EVEN, 0, 3), (MIRROR, 0, 3), (KLEIN, 0, 5), (BRIDGE, 0, 5), (BRIDGE, 1, 5))


def at_place(web, place, turns):
    """The closed walk with so many kept turns at a place."""
    there = to_place(place)
    return joined(there, (last_room(web, there), turns, ()), back(web, there))


class KeepsTest(unittest.TestCase):
    def test_kept_turns(self):
        self.assertEqual(kept_turns(TURNING, (0, 5, ()), BASE), 5)
        self.assertEqual(kept_turns(TURNING, (0, 0, ()), A), 0)
        self.assertEqual(kept_turns(TURNING, (0, 2, ()), A), 3)
        self.assertEqual(kept_turns(TURNING, (0, -8, ()), A), -12)
        self.assertEqual(kept_turns(MIRROR, (0, 2, ()), A), -3)
        self.assertEqual(kept_turns(TURNING, (0, 1, ((0, 1, 7), (0, -1, -1))), A), 7)
        self.assertIs(kept_turns(TURNING, (0, 1, ()), A), None)
        self.assertIs(kept_turns(TURNING, (0, 0, ((0, 1, 0),)), BASE), None)
        self.assertIs(kept_turns(TURNING, (0, 1, ((0, 1, 7), (0, -1, -1))), BASE), None)

    def test_keeps_place(self):
        self.assertIs(keeps_place(TURNING, (0, 5, ()), BASE), True)
        self.assertIs(keeps_place(TURNING, (0, 0, ()), A), True)
        self.assertIs(keeps_place(TURNING, (0, 2, ()), A), True)
        self.assertIs(keeps_place(TURNING, (0, 1, ()), A), False)
        self.assertIs(keeps_place(TURNING, (0, -1, ()), A), False)
        self.assertIs(keeps_place(TURNING, (0, 0, ((0, 1, 0),)), BASE), False)
        self.assertIs(keeps_place(BRIDGE, (1, 0, ((0, -1, 1), (0, 1, 0))), (1, ((0, 0, -1),))), True)

    def test_many_walks(self):
        for web, base, size in SMALL + ((TRIANGLE, 1, 2), (PAIR, 0, 2)):
            places = places_up_to(web, base, size)[:40]
            for walk in closed_in(web, 41, 20, 6, base):
                for place in places:
                    kept = led(web, walk, place) == place
                    self.assertIs(keeps_place(web, walk, place), kept, (web, walk, place))
                    turns = kept_turns(web, walk, place)
                    self.assertIs(turns is not None, kept)
                    if kept:
                        self.assertTrue(same(web, walk, at_place(web, place, turns)))

    def test_however_great(self):
        far = (0, ((0, 0, 1),) * 60)
        self.assertEqual(kept_turns(STEEP, (0, MOST, ()), far), MOST * 1000 ** 60)
        self.assertEqual(kept_turns(STEEP, (0, -MOST, ()), far), -MOST * 1000 ** 60)
        self.assertIs(keeps_place(STEEP, (0, MOST, ()), far), True)
        self.assertIs(kept_turns(STEEP, (0, MOST, ()), (0, ((0, 0, -1),) * 60)), None)
        self.assertIs(keeps_place(STEEP, (0, 1, ((0, 1, 0),) * 60), far), False)

    def test_not_closed_goes_first(self):
        walk = (0, 3, ((0, 1, 4),))
        for function in (keeps_place, kept_turns):
            for place in ((0, ()), (1, ())):
                with self.assertRaises(NotClosed) as caught:
                    function(BRIDGE, walk, place)
                self.assertEqual(caught.exception.walk, walk)

    def test_not_joined(self):
        for function in (keeps_place, kept_turns):
            for walk, place, room, other in (((0, 3, ()), (1, ()), 0, 1), ((1, 0, ()), (0, ((0, 0, 1),)), 1, 0)):
                with self.assertRaises(NotJoined) as caught:
                    function(BRIDGE, walk, place)
                self.assertEqual((caught.exception.room, caught.exception.other), (room, other))


class KeepingWalkTest(unittest.TestCase):
    def test_keeping_walks(self):
        self.assertEqual(keeping_walk(TURNING, BASE, 7), (0, 7, ()))
        self.assertEqual(keeping_walk(TURNING, A, 0), (0, 0, ()))
        self.assertEqual(keeping_walk(TURNING, A, 3), (0, 2, ()))
        self.assertEqual(keeping_walk(TURNING, A, -3), (0, -2, ()))
        self.assertEqual(keeping_walk(TURNING, A, 1), (0, 1, ((0, 1, 1), (0, -1, -1))))
        self.assertEqual(keeping_walk(LONE, (2, ()), -5), (2, -5, ()))

    def test_many_places(self):
        for web, base, size in SMALL + ((TRIANGLE, 1, 2), (PAIR, 0, 2)):
            for place in places_up_to(web, base, size)[:25]:
                for turns in (-4, -1, 0, 1, 2, 3, 6, 12):
                    told = keeping_walk(web, place, turns)
                    self.assertTrue(is_plain_by_words(web, told))
                    self.assertTrue(same(web, told, at_place(web, place, turns)))
                    self.assertEqual(kept_turns(web, told, place), turns)

    def test_too_many_steps(self):
        self.assertEqual(len(keeping_walk(TURNING, (0, ((1, 0, 1),) * 30), 1)[2]), 60)
        for turns in (1, -1, 10 ** 400 + 1):
            with self.assertRaises(TooMany) as caught:
                keeping_walk(TURNING, (0, ((1, 0, 1),) * 31), turns)
            self.assertEqual(caught.exception.what, "steps")
        self.assertEqual(keeping_walk(TURNING, (0, ((1, 0, 1),) * 60), 0), (0, 0, ()))
        self.assertEqual(keeping_walk(TURNING, (0, ((1, 0, 1),) * 60), 3 ** 60), (0, 2 ** 60, ()))

    def test_too_great_turns(self):
        for sign in (1, -1):
            self.assertEqual(keeping_walk(STILL, (0, ()), sign * MOST), (0, sign * MOST, ()))
            for turns in (sign * BOUND, sign * BOUND ** 2):
                with self.assertRaises(TooGreat) as caught:
                    keeping_walk(STILL, (0, ()), turns)
                self.assertEqual(caught.exception.what, "turns")
        place = (0, ((0, 0, 1),))
        self.assertEqual(keeping_walk(STEEP, place, 1000 * MOST), (0, MOST, ()))
        with self.assertRaises(TooGreat):
            keeping_walk(STEEP, place, 1000 * BOUND)

    def test_not_all_places_are_of_numbers_above_0(self):
        self.assertEqual(keeping_walk(MIRROR, A, 3), (0, -2, ()))
        self.assertEqual(keeping_walk(MIRROR, A, -6), (0, 4, ()))


class KeepingNumberTest(unittest.TestCase):
    def test_example_of_the_document(self):
        self.assertEqual(keeping_number(TURNING, BASE, A), 2)
        self.assertEqual(keeping_number(TURNING, A, BASE), 3)

    def test_one_place(self):
        for place in (BASE, A, (0, ((1, 0, 1),) * 60)):
            self.assertEqual(keeping_number(TURNING, place, place), 1)

    def test_numbers_stand_above_0(self):
        self.assertEqual(keeping_number(MIRROR, BASE, A), 2)
        self.assertEqual(keeping_number(MIRROR, A, BASE), 3)
        self.assertEqual(keeping_number((1, ((0, 0, -2, -3),)), BASE, A), 2)
        self.assertEqual(keeping_number((1, ((0, 0, 2, -3),)), A, BASE), 3)

    def test_numbers_divide_out_on_the_way(self):
        web = (1, ((0, 0, 2, 4), (0, 0, 6, 9)))
        self.assertEqual(keeping_number(web, BASE, (0, ((0, 0, 1), (0, 0, 1)))), 2)
        self.assertEqual(keeping_number(web, BASE, (0, ((0, 0, 1), (0, 1, 1)))), 6)
        self.assertEqual(keeping_number(web, BASE, (0, ((0, 1, 1), (0, 0, 1)))), 12)
        self.assertEqual(keeping_number(web, BASE, (0, ((0, 0, -1), (0, 0, -1)))), 8)
        self.assertEqual(keeping_number(web, (0, ((0, 0, 1),)), (0, ((1, 0, 1),))), 4)

    def test_the_least_turns_that_keep(self):
        for web, base, size in ((TURNING, 0, 2), (DOUBLING, 0, 3), (EVEN, 0, 2), (MIRROR, 0, 2), (BRIDGE, 1, 3),
                                (TRIANGLE, 1, 1), (PAIR, 0, 1)):
            places = places_up_to(web, base, size)
            places = places[:4] + places[4::max(1, len(places) // 6)]
            for first in places:
                for second in places:
                    number = keeping_number(web, first, second)
                    between = plain_by_words(web, joined(back(web, to_place(first)), to_place(second)))
                    crossings = [step[:2] for step in between[2]]
                    self.assertEqual(number, least_passing(web, crossings)[0])
                    product = 1
                    for t, s in crossings:
                        product *= ends(web, t, s)[2]
                    self.assertEqual(product % number, 0)
                    for turns in (number, -number, 3 * number):
                        self.assertIs(keeps_place(web, at_place(web, first, turns), second), True)
                    for turns in range(1, min(number, 8)):
                        self.assertIs(keeps_place(web, at_place(web, first, turns), second), False)

    def test_however_great(self):
        self.assertEqual(keeping_number(STEEP, BASE, (0, ((0, 0, -1),) * 60)), 1000 ** 60)
        self.assertEqual(keeping_number(STEEP, (0, ((0, 0, 1),) * 60), (0, ((0, 0, -1),) * 60)), 1000 ** 120)

    def test_unlike_bases(self):
        for first, second, room in (((0, ()), (1, ()), 1), ((3, ()), (0, ()), 0), ((1, ((0, 0, -1),)), (3, ()), 3)):
            with self.assertRaises(NotInOne) as caught:
                keeping_number(PIECES, first, second)
            self.assertEqual(caught.exception.room, room)


class KeptCountsTest(unittest.TestCase):
    def test_counts(self):
        self.assertEqual(kept_counts(TURNING, 0, 0, 3), (1, 5, 20, 80))
        self.assertEqual(kept_counts(TURNING, 0, 1, 3), (1, 0, 0, 0))
        self.assertEqual(kept_counts(TURNING, 0, 2, 2), (1, 2, 4))
        self.assertEqual(kept_counts(TURNING, 0, 4, 3), (1, 2, 8, 12))
        self.assertEqual(kept_counts(DOUBLING, 0, 1, 3), (1, 1, 2, 2))
        self.assertEqual(kept_counts(STILL, 0, 5, 2), (1, 0, 0))

    def test_kept_places_are_counted(self):
        for web, base, size in ((TURNING, 0, 3), (DOUBLING, 0, 4), (EVEN, 0, 3), (MIRROR, 0, 3), (BRIDGE, 0, 5),
                                (TRIANGLE, 1, 2), (PAIR, 0, 2), (PAIR, 1, 2), (LONE, 2, 2)):
            places = places_up_to(web, base, size)
            for turns in (0, 1, -1, 2, -3, 4, 6, -8, 12):
                expected = [0] * (size + 1)
                for place in places:
                    there = to_place(place)
                    seen = shrunk(web, joined(back(web, there), (base, turns, ()), there))
                    expected[len(place[1])] += not seen[2]
                self.assertEqual(kept_counts(web, base, turns, size), tuple(expected), (web, base, turns))

    def test_sizes(self):
        self.assertEqual(kept_counts(TURNING, 0, 6, 0), (1,))
        self.assertEqual(kept_counts(TURNING, 0, 0, 8), (1,) + tuple(5 * 4 ** n for n in range(8)))
        self.assertEqual(len(kept_counts(TURNING, 0, MOST, 8)), 9)
        for size in (-1, -7, 9, 10, 60, 10 ** 30):
            for turns in (0, 1):
                with self.assertRaises(OutOfRange) as caught:
                    kept_counts(TURNING, 0, turns, size)
                self.assertEqual(caught.exception.value, size)

    def test_many_ties(self):
        web = (1, ((0, 0, 2, 3), (0, 0, 5, 7), (0, 0, 11, 13), (0, 0, 17, 19)))
        turns = (2 * 3 * 5 * 7 * 11 * 13 * 17 * 19) ** 8
        self.assertEqual(kept_counts(web, 0, turns, 8), (1,) + tuple(77 * 76 ** n for n in range(8)))


class StayingTest(unittest.TestCase):
    def test_nearest_kept(self):
        self.assertEqual(nearest_kept(TURNING, (0, 5, ())), BASE)
        self.assertEqual(nearest_kept(TURNING, (0, 1, ((0, 1, 1), (0, -1, -1)))), A)
        self.assertEqual(nearest_kept(TURNING, (0, 1, ((0, 1, 3), (0, -1, 0)))), BASE)
        self.assertIs(nearest_kept(TURNING, (0, 1, ((0, 1, 3),))), None)
        self.assertEqual(nearest_kept(LONE, (3, 0, ())), (3, ()))

    def test_line_places(self):
        self.assertEqual(line_places(TURNING, (0, 1, ((0, 1, 3),))), (BASE, A))
        self.assertIs(line_places(TURNING, (0, 5, ())), None)
        self.assertIs(line_places(TURNING, (0, 1, ((0, 1, 1), (0, -1, -1)))), None)
        walk = (0, 1, ((0, 1, 1), (0, 1, 1), (0, -1, -1)))
        told = (0, ((1, 0, 1), (1, 0, 1)))
        self.assertEqual(line_places(TURNING, walk), (A, told))

    def test_not_closed(self):
        walk = (0, 3, ((0, 1, 4),))
        for function in (nearest_kept, line_places):
            with self.assertRaises(NotClosed) as caught:
                function(BRIDGE, walk)
            self.assertEqual(caught.exception.walk, walk)

    def test_by_looking_at_all_places(self):
        for web, base, size in SMALL:
            places = places_up_to(web, base, size)
            for walk in closed_in(web, 43, 25, size, base):
                x = len(plain_by_words(web, walk)[2])
                y = len(plain_by_words(web, joined(walk, walk))[2])
                moved = {place: apart(place, led(web, walk, place)) for place in places}
                least = min(moved.values())
                near = [place for place in places if moved[place] == least]
                first = [place for place in near if len(place[1]) == len(near[0][1])]
                self.assertEqual(len(first), 1)
                if y <= x:
                    self.assertEqual(least, 0)
                    self.assertEqual(nearest_kept(web, walk), first[0])
                    self.assertEqual(len(first[0][1]) * 2, x)
                    self.assertIs(line_places(web, walk), None)
                else:
                    self.assertEqual(least, y - x)
                    self.assertIs(nearest_kept(web, walk), None)
                    row = line_places(web, walk)
                    self.assertEqual((row[0], row[-1]), (first[0], led(web, walk, first[0])))
                    self.assertEqual(len(row), y - x + 1)
                    for one, other in zip(row, row[1:]):
                        self.assertEqual(apart(one, other), 1)
                        self.assertEqual(apart(one, led(web, walk, one)), least)
                    self.assertEqual(len(set(row)), len(row))

    def test_greatest_walks(self):
        walk = (0, MOST, ((0, 1, MOST),) * 60)
        self.assertEqual(line_places(STEEP, walk), tuple((0, ((0, 0, 1),) * n) for n in range(61)))
        self.assertIs(nearest_kept(STEEP, walk), None)
        there = (0, ((1, 0, 1),) * 30)
        self.assertEqual(nearest_kept(TURNING, keeping_walk(TURNING, there, 1)), there)
