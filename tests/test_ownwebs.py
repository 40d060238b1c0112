import random
import unittest

from tests.samples import (
    BOUND, BRIDGE, DOUBLING, EVEN, KLEIN, LONE, STILL, TURNING, back, ends, joined, last_room, plain_by_words, same,
    some_closed, some_walk)
from tests.spansamples import some_product, tables_in
from tests.test_readers import given_in
from tubewords.errors import NotClosed, NotInOne, TooGreat, TooMany
from tubewords.ownwebs import own_web, walk_in, walk_out
from tubewords.readers import span_reader
from tubewords.spans import in_span
from tubewords.walks import is_walk
from tubewords.webs import is_web

E = (0, 0, ((0, 1, 0),))
RING = (1, ((0, 0, 1, 1), (0, 0, 1, 1)))
EIGHT = (1, ((0, 0, 8, 8),))


def power_of_e(count):
    return (0, 0, ((0, 1, 0),) * count)


def ties_by_words(web, reader):
    """The ties of an own web: the least turns of the first cell's lot that go over the crossing, and what comes out."""
    cells, links = reader
    ties = []
    for u, t, s, _, x, _ in links:
        _, _, ahead, behind = ends(web, t, s)
        many = next(k for k in range(1, abs(ahead) + 1) if k * cells[u][1] % ahead == 0)
        out = many * cells[u][1] // ahead * behind
        assert out % cells[x][1] == 0
        ties.append((u, x, many, out // cells[x][1]))
    return tuple(ties)


def out_by_words(web, reader, walk):
    """What a walk in an own web stands for, as it is joined of turns, crossings and the turns of links."""
    cells, links = reader
    at = walk[0]
    result = (cells[at][0], walk[1] * cells[at][1], ())
    for number, side, k in walk[2]:
        u, t, s, near, x, far = links[number]
        part = (cells[u][0], near, ((t, s, far),))
        if side == -1:
            part, x = back(web, part), u
        result = joined(result, part, (cells[x][0], k * cells[x][1], ()))
    return result


def with_own_web(seed, many):
    """Webs, rooms and given walks whose span has an own web, and that web."""
    found = []
    rows = [row[:3] for row in tables_in(seed, many)] + given_in(seed + 1, 3 * many)
    for web, room, given in rows:
        cells, links = span_reader(web, room, given)
        if cells[0][1] and len(cells) <= 5 and len(links) <= 7:
            found.append((web, room, given, own_web(web, room, given)))
    return found


class OwnWebTest(unittest.TestCase):
    def test_own_webs(self):
        self.assertEqual(own_web(STILL, 0, ((0, 7, ()),)), (1, ()))
        self.assertEqual(own_web(LONE, 2, ((2, -4, ()),)), (1, ()))
        self.assertEqual(own_web(TURNING, 0, ((0, 1, ()), E)), TURNING)
        self.assertEqual(own_web(BRIDGE, 0, ((0, 2, ()), (0, 0, ((0, 1, 1), (0, -1, 0))))), (2, ((0, 1, 1, 3),)))
        # 6 turns go over the crossing and come out as 12, which are 4 times 3.
        self.assertEqual(own_web(DOUBLING, 0, ((0, 3, ()), E)), (1, ((0, 0, 1, 2),)))
        self.assertEqual(own_web((1, ((0, 0, -4, 6),)), 0, ((0, 6, ()), E)), (1, ((0, 0, 2, -3),)))

    def test_rooms_are_cells_and_ties_are_links(self):
        for web, room, given, own in with_own_web(2001, 150):
            reader = span_reader(web, room, given)
            self.assertTrue(is_web(own))
            self.assertEqual(own, (len(reader[0]), ties_by_words(web, reader)))
            most = max([abs(end) for tie in web[1] for end in tie[2:]] + [1])
            self.assertLessEqual(max([abs(end) for tie in own[1] for end in tie[2:]] + [0]), most)

    def test_free_spans(self):
        for web in (TURNING, EVEN, STILL, KLEIN):
            self.assertIsNone(own_web(web, 0, ()))
            self.assertIsNone(own_web(web, 0, ((0, 0, ()),)))
        self.assertIsNone(own_web(EVEN, 0, (E,)))
        # A free span is told ahead of too many rooms and ties.
        self.assertEqual(len(span_reader(RING, 0, (power_of_e(6),))[0]), 6)
        self.assertIsNone(own_web(RING, 0, (power_of_e(6),)))
        many = tuple([(0, k, ((0, 1, -k),)) for k in range(8)])
        self.assertEqual(len(span_reader(EIGHT, 0, many)[1]), 8)
        self.assertIsNone(own_web(EIGHT, 0, many))

    def test_5_and_6_cells(self):
        self.assertEqual(own_web(RING, 0, (power_of_e(5), (0, 1, ()))),
                         (5, ((0, 1, 1, 1), (0, 2, 1, 1), (1, 3, 1, 1), (2, 4, 1, 1), (3, 4, 1, 1))))
        for function, more in ((own_web, ()), (walk_out, (E,)), (walk_in, (E,)), (walk_in, ((0, 0, ()),))):
            with self.assertRaises(TooMany) as caught:
                function(RING, 0, (power_of_e(6), (0, 1, ())), *more)
            self.assertEqual(caught.exception.what, "rooms")

    def test_7_and_8_links(self):
        given = ((0, 8, ()),) + tuple([(0, k, ((0, 1, -k),)) for k in range(8)])
        self.assertEqual(own_web(EIGHT, 0, given[:8]), (1, ((0, 0, 1, 1),) * 7))
        for function, more in ((own_web, ()), (walk_out, (E,)), (walk_in, (E,)), (walk_in, ((0, 0, ()),))):
            with self.assertRaises(TooMany) as caught:
                function(EIGHT, 0, given, *more)
            self.assertEqual(caught.exception.what, "ties")

    def test_rooms_come_ahead_of_ties(self):
        given = (power_of_e(6), (0, 1, ()), (0, 0, ((1, 1, 0),) * 6))
        cells, links = span_reader(RING, 0, given)
        self.assertTrue(len(cells) > 5 and len(links) > 7)
        for function, more in ((own_web, ()), (walk_out, (E,)), (walk_in, (E,))):
            with self.assertRaises(TooMany) as caught:
                function(RING, 0, given, *more)
            self.assertEqual(caught.exception.what, "rooms")

    def test_errors_of_given_walks_come_first(self):
        long = (0, 0, ((0, 1, 0),) * 31)
        for function, more in ((own_web, ()), (walk_out, ((0, 0, ()),)), (walk_in, ((0, 0, ()),))):
            for web, given, error, name, worth in (
                    (EVEN, ((0, 1, ()),) * 13, TooMany, "what", "walks"),
                    (BRIDGE, ((0, 1, ()), (1, 1, ()), (0, 0, ((0, 1, 0),))), NotInOne, "room", 1),
                    (BRIDGE, ((0, 1, ()), (0, 0, ((0, 1, 0),)), (1, 1, ())), NotClosed, "walk", (0, 0, ((0, 1, 0),))),
                    (EVEN, (long, long), TooMany, "what", "steps"),
                    (RING, (long, long, (0, 1, ())), TooMany, "what", "steps")):
                with self.assertRaises(error) as caught:
                    function(web, 0, given, *more)
                self.assertEqual(getattr(caught.exception, name), worth)


class WalkOutTest(unittest.TestCase):
    def test_walks(self):
        given = ((0, 3, ()), (0, 1, ((0, 1, 2),)))
        self.assertEqual(span_reader(DOUBLING, 0, given), (((0, 3),), ((0, 0, 1, 0, 0, 1),)))
        self.assertEqual(walk_out(DOUBLING, 0, given, (0, 5, ())), (0, 15, ()))
        self.assertEqual(walk_out(DOUBLING, 0, given, (0, 0, ((0, 1, 0),))), (0, 0, ((0, 1, 1),)))
        self.assertEqual(walk_out(DOUBLING, 0, given, (0, 1, ((0, 1, -1),))), (0, 0, ((0, 1, 4),)))
        self.assertEqual(walk_out(DOUBLING, 0, given, (0, 0, ((0, -1, 2),))), (0, 1, ((0, -1, 5),)))

    def test_walks_that_begin_in_another_room(self):
        web = (2, ((0, 1, 1, 1), (1, 1, 2, 2)))
        given = ((0, 2, ()), (0, 0, ((0, 1, 0), (1, 1, 0), (0, -1, 0))))
        self.assertEqual(own_web(web, 0, given), (2, ((0, 1, 1, 1), (1, 1, 1, 1))))
        self.assertEqual(walk_out(web, 0, given, (1, 1, ((1, 1, 3),))), (1, 0, ((1, 1, 8),)))
        self.assertEqual(walk_out(web, 0, given, (1, 1, ((0, -1, 3),))), (1, 0, ((0, -1, 8),)))

    def test_what_links_and_lots_make(self):
        chance = random.Random(2002)
        for web, room, given, own in with_own_web(2003, 60):
            reader = span_reader(web, room, given)
            for _ in range(4):
                walk = some_walk(chance, own, chance.randint(0, 7))
                self.assertEqual(walk_out(web, room, given, walk), plain_by_words(web, out_by_words(web, reader, walk)))

    def test_equal_exactly_if_what_they_stand_for_is(self):
        chance = random.Random(2004)
        counts = {True: 0, False: 0}
        for web, room, given, own in with_own_web(2005, 80):
            for _ in range(6):
                walk = some_walk(chance, own, chance.randint(0, 5), most=2)
                other = some_walk(chance, own, chance.randint(0, 5), walk[0], most=2)
                if chance.random() < 0.5:
                    other = plain_by_words(own, joined(walk, other, back(own, other)))
                if chance.random() < 0.3:
                    other = joined(other, (last_room(own, other), chance.choice((0, 1)), ()))
                expected = same(own, walk, other)
                counts[expected] += 1
                outs = [walk_out(web, room, given, one) for one in (walk, other)]
                self.assertIs(outs[0] == outs[1], expected)
        self.assertGreater(min(counts.values()), 60)

    def test_too_great_turns(self):
        given = ((0, 10, ()),)
        self.assertEqual(walk_out(STILL, 0, given, (0, BOUND // 10 - 1, ())), (0, BOUND - 10, ()))
        for turns in (BOUND // 10, -BOUND // 10, BOUND - 1):
            with self.assertRaises(TooGreat) as caught:
                walk_out(STILL, 0, given, (0, turns, ()))
            self.assertEqual(caught.exception.what, "turns")
        # The plain walk alone is looked at.
        given = ((0, 10, ()), E)
        walk = (0, BOUND // 10, ((0, 1, -BOUND // 10),))
        self.assertEqual(walk_out((1, ((0, 0, 1, 1),)), 0, given, walk), E)

    def test_60_and_61_steps(self):
        given = ((0, 1, ()), E)
        self.assertEqual(walk_out(EVEN, 0, given, power_of_e(60)), power_of_e(60))
        with self.assertRaises(TooMany) as caught:
            walk_out(EVEN, 0, given, power_of_e(61))
        self.assertEqual(caught.exception.what, "steps")


class WalkInTest(unittest.TestCase):
    def test_walks(self):
        given = ((0, 3, ()), (0, 1, ((0, 1, 2),)))
        self.assertEqual(walk_in(DOUBLING, 0, given, (0, 15, ())), (0, 5, ()))
        self.assertEqual(walk_in(DOUBLING, 0, given, (0, 1, ((0, 1, -1),))), E)
        self.assertEqual(walk_in(DOUBLING, 0, given, (0, 0, ((0, 1, 4),))), (0, 0, ((0, 1, 1),)))
        self.assertEqual(walk_in(DOUBLING, 0, given, (0, 0, ())), (0, 0, ()))

    def test_walks_that_are_not_in_the_span(self):
        given = ((0, 3, ()), (0, 1, ((0, 1, 2),)))
        for walk in ((0, 1, ()), (0, 14, ()), E, (0, 0, ((0, 1, 2),)), (0, BOUND - 2, ((0, 1, 1),))):
            self.assertFalse(in_span(DOUBLING, 0, given, walk))
            self.assertIsNone(walk_in(DOUBLING, 0, given, walk))
        for walk in ((0, 0, ((0, 1, 0),)), (1, 0, ()), (1, 3, ()), (1, 0, ((0, -1, 0),))):
            self.assertIsNone(walk_in(BRIDGE, 0, ((0, 1, ()),), walk))
        # The end of a walk is looked at, too: a cell of another room, or another cell.
        self.assertIsNone(walk_in(BRIDGE, 0, ((0, 1, ()), (0, 0, ((0, 1, 1), (0, -1, 0)))), (0, 0, ((0, 1, 0),))))
        self.assertIsNone(walk_in(RING, 0, ((0, 1, ()), power_of_e(3)), power_of_e(2)))

    def test_there_and_back(self):
        chance = random.Random(2006)
        found = 0
        for web, room, given, own in with_own_web(2007, 120):
            for _ in range(3):
                walk = some_walk(chance, own, chance.randint(0, 6), 0)
                if last_room(own, walk) == 0:
                    found += 1
                    out = walk_out(web, room, given, walk)
                    self.assertTrue(in_span(web, room, given, out))
                    self.assertEqual(walk_in(web, room, given, out), plain_by_words(own, walk))
        self.assertGreater(found, 300)

    def test_back_and_there(self):
        chance = random.Random(2008)
        counts = {True: 0, False: 0}
        for web, room, given, own in with_own_web(2009, 120):
            for _ in range(4):
                walk = some_closed(chance, web, 5, room)
                if chance.random() < 0.5:
                    walk = some_product(chance, web, room, given)
                inside = walk_in(web, room, given, walk)
                expected = in_span(web, room, given, walk)
                counts[expected] += 1
                self.assertIs(inside is not None, expected)
                if expected:
                    self.assertTrue(is_walk(own, inside))
                    self.assertEqual((inside[0], last_room(own, inside)), (0, 0))
                    self.assertEqual(inside, plain_by_words(own, inside))
                    self.assertEqual(walk_out(web, room, given, inside), plain_by_words(web, walk))
        self.assertGreater(min(counts.values()), 60)

    def test_too_great_turns(self):
        # Turns grow on the way to the end: in the own web as they do in the web.
        given = ((0, 3, ()), E)
        walk = (0, 3 * 2 ** 990, ((0, 1, 0),))
        self.assertEqual(walk_in(DOUBLING, 0, given, walk), (0, 0, ((0, 1, 2 ** 991),)))
        walk = (0, 3 * 2 ** 990, ((0, 1, 0),) * 20)
        with self.assertRaises(TooGreat) as caught:
            walk_in(DOUBLING, 0, given, walk)
        self.assertEqual(caught.exception.what, "turns")
        self.assertIsNone(walk_in(DOUBLING, 0, given, (0, 3 * 2 ** 990 + 1, ((0, 1, 0),) * 20)))

    def test_60_and_61_steps(self):
        given = ((0, 1, ()), E)
        self.assertEqual(walk_in(EVEN, 0, given, power_of_e(60)), power_of_e(60))
        with self.assertRaises(TooMany) as caught:
            walk_in(EVEN, 0, given, power_of_e(61))
        self.assertEqual(caught.exception.what, "steps")
