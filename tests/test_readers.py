import random
import unittest
from math import gcd

from tests.samples import (
    ALL_WEBS, BRIDGE, DOUBLING, EVEN, KLEIN, LONE, OTHER_KINDS, STILL, TURNING, WEBS, back, closed_in, ends, joined,
    last_room, plain_by_words, some_closed, spoilt)
from tests.spansamples import place_behind, some_given, some_product, some_web, tables_in
from tubewords.errors import NotClosed, NotInOne, TooGreat, TooMany
from tubewords.readers import is_folded, is_plain_reader, is_reader, reader_walks, reads_walk, span_reader
from tubewords.webs import ways_out

E = (0, 0, ((0, 1, 0),))


def given_in(seed, many):
    chance = random.Random(seed)
    found = []
    for i in range(many):
        web = chance.choice(ALL_WEBS) if i % 3 == 0 else some_web(chance)
        room = chance.randrange(web[0])
        found.append((web, room, some_given(chance, web, room)))
    return found


def lcm(m, n):
    return abs(m * n) // gcd(m, n) if m and n else 0


def over_ways(reader):
    """All (cell, way, near, other cell, far) of a reader: each link over both of its ways."""
    found = []
    for u, t, s, near, x, far in reader[1]:
        found += [(u, (t, s), near, x, far), (x, (t, -s), -far, u, -near)]
    return found


def is_folded_by_words(web, reader):
    cells, _ = reader
    reached = {0}
    for _ in cells:
        reached |= {x for u, _, _, x, _ in over_ways(reader) if u in reached}
    if len(reached) < len(cells):
        return False
    rows = over_ways(reader)
    for i, (u, way, near, x, _) in enumerate(rows):
        _, _, ahead, behind = ends(web, *way)
        m, other = cells[u][1], cells[x][1]
        carried = behind * (lcm(m, ahead) // ahead)
        if carried % other if other else carried:
            return False
        for v, way2, near2, _, _ in rows[:i]:
            if (v, way2) == (u, way) and (near - near2) % gcd(m, ahead) == 0:
                return False
    return True


def is_plain_by_words(web, reader):
    """[46], point by point, for a folded reader."""
    cells, links = reader
    rows = over_ways(reader)
    for cell in range(1, len(cells)):
        mine = [row for row in rows if row[0] == cell]
        if len(mine) == 1 and mine[0][3] != cell:
            _, (t, s), _, u, _ = mine[0]
            _, _, ahead, behind = ends(web, t, -s)
            if cells[cell][1] == abs(behind * (lcm(cells[u][1], ahead) // ahead)):
                return False
    met, told, expected = 1, set(), []
    for cell in range(len(cells)):
        for way in ways_out(web, cells[cell][0]):
            here = sorted((row[2], i // 2) for i, row in enumerate(rows) if row[:2] == (cell, way) and i // 2 not in told)
            for near, number in here:
                told.add(number)
                u, t, s, near, x, far = links[number]
                if (u, (t, s)) != (cell, way) or not 0 <= near < gcd(cells[u][1], ends(web, t, s)[2]):
                    return False
                expected.append(number)
                if x >= met:
                    if x > met or far != 0:
                        return False
                    met += 1
                elif cells[x][1] and not 0 <= far < cells[x][1]:
                    return False
    return expected == list(range(len(links)))


def reads_by_words(web, reader, walk):
    """Reads a walk trying all choices along the links: which cells can be come to, with which turns at hand."""
    cells, _ = reader
    plain = plain_by_words(web, walk)
    if plain[0] != cells[0][0] or last_room(web, walk) != walk[0]:
        return False
    at = {(0, plain[1])}
    for t, s, k in plain[2]:
        _, _, ahead, behind = ends(web, t, s)
        behind_it = set()
        for cell, turns in at:
            m = cells[cell][1]
            for u, way, near, x, far in over_ways(reader):
                if u == cell and way == (t, s):
                    for e in range(abs(ahead)):
                        if (turns - near - e * m) % ahead == 0:
                            behind_it.add((x, (turns - near - e * m) // ahead * behind - far + k))
        at = behind_it
    return any(cell == 0 and (turns % cells[0][1] == 0 if cells[0][1] else turns == 0) for cell, turns in at)


class SpanReaderTest(unittest.TestCase):
    def test_examples_of_the_document(self):
        self.assertEqual(span_reader(DOUBLING, 0, ((0, 3, ()),)), (((0, 3),), ()))
        self.assertEqual(span_reader(DOUBLING, 0, ((0, 3, ()), E)), (((0, 3),), ((0, 0, 1, 0, 0, 0),)))
        web = (2, ((0, 1, 2, 1),))
        self.assertEqual(span_reader(web, 1, ((1, 1, ()),)), (((1, 1),), ()))

    def test_readers(self):
        self.assertEqual(span_reader(STILL, 0, ()), (((0, 0),), ()))
        self.assertEqual(span_reader(LONE, 2, ((2, 6, ()), (2, -4, ()))), (((2, 2),), ()))
        self.assertEqual(span_reader(TURNING, 0, ((0, 0, ()),)), (((0, 0),), ()))
        self.assertEqual(span_reader(TURNING, 0, (E,)), (((0, 0),), ((0, 0, 1, 0, 0, 0),)))
        self.assertEqual(span_reader(TURNING, 0, ((0, 1, ((0, 1, 7),)),)), (((0, 0),), ((0, 0, 1, 1, 0, 7),)))
        self.assertEqual(span_reader(TURNING, 0, ((0, 5, ((0, 1, 1),)),)), (((0, 0),), ((0, 0, 1, 1, 0, 7),)))
        # Crossed backwards, it is told from the side on which it is met first.
        self.assertEqual(span_reader(TURNING, 0, ((0, -7, ((0, -1, -1),)),)), (((0, 0),), ((0, 0, 1, 1, 0, 7),)))
        # 3 turns on the far side are 2 turns on the near one, and so on: all in all 1 turn.
        self.assertEqual(span_reader((1, ((0, 0, 1, 1),)), 0, ((0, 6, ()), (0, 0, ((0, 1, 4),)))),
                         (((0, 6),), ((0, 0, 1, 0, 0, 4),)))
        self.assertEqual(span_reader(KLEIN, 0, ((0, 0, ((0, 1, 0), (0, 1, 0))),)),
                         (((0, 0), (0, 0)), ((0, 0, 1, 0, 1, 0), (0, 0, -1, 0, 1, 0))))

    def test_needless_cells_are_left_out(self):
        self.assertEqual(span_reader(BRIDGE, 0, ((0, 0, ((0, 1, 3), (0, -1, 0))),)), (((0, 2),), ()))
        # 1 turn in room 1 is more than the room 0 has of it.
        self.assertEqual(span_reader(BRIDGE, 0, ((0, 0, ((0, 1, 1), (0, -1, 0))),)),
                         (((0, 2), (1, 1)), ((0, 0, 1, 0, 1, 0),)))
        self.assertEqual(span_reader(BRIDGE, 0, ((0, 1, ((0, 1, 1), (0, -1, -1))),)),
                         (((0, 2), (1, 1)), ((0, 0, 1, 1, 1, 0),)))

    def test_links_stand_in_the_order_in_which_they_are_met(self):
        web = (1, ((0, 0, 3, 3),))
        given = ((0, 2, ((0, 1, 1),)), (0, 1, ((0, 1, 2),)), E)
        self.assertEqual(span_reader(web, 0, given), (((0, 0),), ((0, 0, 1, 0, 0, 0), (0, 0, 1, 1, 0, 2), (0, 0, 1, 2, 0, 1))))
        # Without other far turns, 1 turn is in the span.
        given = ((0, 2, ((0, 1, 0),)), (0, 1, ((0, 1, 0),)), E)
        self.assertEqual(span_reader(web, 0, given), (((0, 1),), ((0, 0, 1, 0, 0, 0),)))

    def test_all_is_read(self):
        for web, room, given in given_in(501, 150):
            reader = span_reader(web, room, given)
            self.assertIs(is_reader(web, reader), True)
            self.assertTrue(is_folded_by_words(web, reader), (web, given, reader))
            self.assertTrue(is_plain_by_words(web, reader), (web, given, reader))
            self.assertIs(is_folded(web, reader), True)
            self.assertIs(is_plain_reader(web, reader), True)
            self.assertEqual(reader[0][0][0], room)
            for walk in given:
                self.assertIs(reads_walk(web, reader, walk), True)

    def test_the_span_makes_the_reader(self):
        chance = random.Random(502)
        for web, room, given in given_in(503, 120):
            reader = span_reader(web, room, given)
            self.assertEqual(span_reader(web, room, given[::-1]), reader)
            self.assertEqual(span_reader(web, room, tuple(back(web, walk) for walk in given)), reader)
            self.assertEqual(span_reader(web, room, tuple(plain_by_words(web, walk) for walk in given)), reader)
            more = given + tuple(some_product(chance, web, room, given) for _ in range(2))
            if sum(len(walk[2]) for walk in more) <= 60:
                self.assertEqual(span_reader(web, room, more), reader)
            if len(given) >= 2:
                other = (joined(given[0], given[1]),) + given[1:]
                if sum(len(walk[2]) for walk in other) <= 60:
                    self.assertEqual(span_reader(web, room, other), reader)

    def test_great_turns(self):
        great = 10 ** 299
        self.assertEqual(span_reader(STILL, 0, ((0, 6 * great, ()), (0, -4 * great, ()))), (((0, 2 * great),), ()))
        web = (1, ((0, 0, 2, 1),))
        self.assertEqual(span_reader(web, 0, ((0, 3 * 2 ** 900, ()), E)), (((0, 3),), ((0, 0, 1, 0, 0, 0),)))
        self.assertEqual(span_reader(EVEN, 0, ((0, 2 * great, ((0, 1, 1),)),)),
                         (((0, 0),), ((0, 0, 1, 0, 0, 2 * great + 1),)))

    def test_12_and_13_given_walks(self):
        walks = tuple((0, 2 ** i, ()) for i in range(13, 0, -1))
        self.assertEqual(span_reader(STILL, 0, walks[1:]), (((0, 2),), ()))
        with self.assertRaises(TooMany) as caught:
            span_reader(STILL, 0, walks)
        self.assertEqual(caught.exception.what, "walks")

    def test_60_and_61_steps(self):
        chance = random.Random(504)
        walks = tuple((0, 1, tuple((0, chance.choice((1, -1)), chance.randint(0, 3)) for _ in range(30))) for _ in range(2))
        reader = span_reader(TURNING, 0, walks)
        self.assertTrue(is_plain_by_words(TURNING, reader))
        with self.assertRaises(TooMany) as caught:
            span_reader(TURNING, 0, walks + (E,))
        self.assertEqual(caught.exception.what, "steps")


class IsReaderTest(unittest.TestCase):
    READER = (((0, 2), (1, 1)), ((0, 0, 1, 0, 1, 0),))

    def test_readers(self):
        for reader in (self.READER, (((1, 0),), ()), (((0, 1), (0, 7)), ()), (((0, 2), (1, 1)), ((1, 0, -1, -10 ** 400, 0, 5),)),
                       (((0, 2), (1, 1)), ((0, 0, 1, 0, 1, 0),) * 3)):
            self.assertIs(is_reader(BRIDGE, reader), True, reader)

    def test_values_that_are_none(self):
        for cells in ((), ((2, 1),), ((-1, 1),), ((0, -1),), ((0, 1), (0, -3)), ((0,),), ((0, 1, 1),), (0, 1), ("01",), None, "x"):
            self.assertIs(is_reader(BRIDGE, (cells, ())), False, cells)
        cells = ((0, 2), (1, 1))
        for link in ((1, 0, 1, 0, 0, 0), (0, 0, -1, 0, 1, 0), (0, 0, 1, 0, 0, 0), (0, 1, 1, 0, 1, 0), (0, -1, 1, 0, 1, 0),
                     (0, 0, 0, 0, 1, 0), (0, 0, 2, 0, 1, 0), (2, 0, 1, 0, 1, 0), (0, 0, 1, 0, 2, 0), (-2, 0, 1, 0, 1, 0),
                     (0, 0, 1, 0, -1, 0), (0, 0, 1, 0, 1), (0, 0, 1, 0, 1, 0, 0), (), None, "001010"):
            self.assertIs(is_reader(BRIDGE, (cells, (link,))), False, link)
            self.assertIs(is_reader(BRIDGE, (cells, self.READER[1] + (link,))), False, link)

    def test_other_kinds(self):
        for value in OTHER_KINDS + (0, (((0, 1),),), (((0, 1),), (), ()), ((0, 1), ()), (((0, 1),), None), (((0, 1),), 0)):
            self.assertIs(is_reader(BRIDGE, value), False, value)
            self.assertIs(is_reader(BRIDGE, (value, ())), False, value)
            if value != ():
                self.assertIs(is_reader(BRIDGE, (((0, 1),), value)), False, value)
            self.assertIs(is_reader(BRIDGE, (((0, 1),), (value,))), False, value)
            self.assertIs(is_reader(BRIDGE, ((value,), ())), False, value)

    def test_spoilt_readers(self):
        web = (2, ((0, 1, 2, 3), (1, 0, 1, 1), (1, 1, 1, 1)))
        reader = (((1, 1), (1, 0)), ((1, 2, 1, 0, 0, 1),))
        self.assertIs(is_reader(web, reader), True)
        for path, value in spoilt(reader):
            right = path == (1,) and isinstance(value[1], tuple) and value[1] in ((), reader[1] * 2)
            right = right or path == (0,) and isinstance(value[0], tuple) and len(value[0]) > 2
            self.assertIs(is_reader(web, value), right, (path, value))


class FoldedTest(unittest.TestCase):
    def test_each_cell_is_reached(self):
        self.assertIs(is_folded(TURNING, (((0, 0), (0, 0)), ())), False)
        self.assertIs(is_folded(TURNING, (((0, 0), (0, 0)), ((0, 0, 1, 0, 1, 0),))), True)
        self.assertIs(is_folded(TURNING, (((0, 0), (0, 0)), ((1, 0, 1, 0, 0, 0),))), True)
        self.assertIs(is_folded(TURNING, (((0, 0), (0, 0), (0, 0)), ((0, 0, 1, 0, 0, 0), (1, 0, 1, 0, 2, 0)))), False)

    def test_lots_fit_along_links(self):
        for lots, right in (((2, 1), True), ((2, 3), True), ((2, 2), False), ((1, 3), True), ((1, 2), False), ((4, 6), True), ((4, 2), True),
                            ((0, 0), True), ((0, 3), False), ((2, 0), False), ((4, 3), False), ((6, 9), True)):
            reader = (((0, lots[0]), (1, lots[1])), ((0, 0, 1, 0, 1, 0),))
            self.assertIs(is_folded(BRIDGE, reader), right, lots)
            self.assertEqual(is_folded_by_words(BRIDGE, reader), right)

    def test_links_over_one_way_are_apart(self):
        web = (1, ((0, 0, 4, 4),))
        for lot in (0, 1, 2, 4, 6):
            for near in range(-5, 6):
                reader = (((0, lot), (0, lot)), ((0, 0, 1, 0, 0, 0), (0, 0, 1, near, 1, 1)))
                self.assertEqual(is_folded(web, reader), is_folded_by_words(web, reader), (lot, near))
        self.assertIs(is_folded(web, (((0, 1),), ((0, 0, 1, 0, 0, 0), (0, 0, 1, 1, 0, 1)))), False)
        self.assertIs(is_folded(web, (((0, 2),), ((0, 0, 1, 0, 0, 0), (0, 0, 1, 2, 0, 1)))), False)
        self.assertIs(is_folded(web, (((0, 2),), ((0, 0, 1, 0, 0, 0), (0, 0, 1, 1, 0, 1)))), True)
        self.assertIs(is_folded(web, (((0, 4),), ((0, 0, 1, 0, 0, 0), (0, 0, 1, 1, 0, 1)))), True)
        self.assertIs(is_folded(web, (((0, 4),), ((0, 0, 1, 0, 0, 0), (0, 0, 1, 1, 0, 4)))), False)
        self.assertIs(is_folded(web, (((0, 4),), ((0, 0, 1, 0, 0, 0), (0, 0, -1, 1, 0, 1)))), True)
        self.assertIs(is_folded(web, (((0, 4),), ((0, 0, 1, 0, 0, 0), (0, 0, -1, 0, 0, 1)))), False)

    def test_many_readers(self):
        chance = random.Random(511)
        counts = {True: 0, False: 0}
        for _ in range(500):
            web = some_web(chance)
            cells = tuple((chance.randrange(web[0]), chance.choice((0, 0, 1, 2, 3))) for _ in range(chance.randint(1, 3)))
            links = []
            for _ in range(chance.randint(0, 3)):
                choices = [(u, t, s, x) for u in range(len(cells)) for x in range(len(cells)) for t in range(len(web[1]))
                           for s in (1, -1) if ends(web, t, s)[:2] == (cells[u][0], cells[x][0])]
                if choices:
                    u, t, s, x = chance.choice(choices)
                    links.append((u, t, s, chance.randint(-4, 4), x, chance.randint(-4, 4)))
            reader = (cells, tuple(links))
            self.assertIs(is_reader(web, reader), True)
            expected = is_folded_by_words(web, reader)
            counts[expected] += 1
            self.assertIs(is_folded(web, reader), expected, (web, reader))
            self.assertIs(is_plain_reader(web, reader), expected and is_plain_by_words(web, reader), (web, reader))
        self.assertGreater(min(counts.values()), 100)


class PlainTest(unittest.TestCase):
    def changed(self, reader, number, link):
        return (reader[0], reader[1][:number] + (link,) + reader[1][number + 1:])

    def test_readers_that_are_folded_and_not_plain(self):
        web = (2, ((0, 1, 4, 6), (0, 0, 2, 2)))
        plain = (((0, 4), (1, 3)), ((0, 0, 1, 1, 1, 0), (0, 1, 1, 0, 0, 2)))
        self.assertIs(is_plain_reader(web, plain), True)
        for number, link in ((0, (0, 0, 1, 5, 1, 0)), (0, (0, 0, 1, -3, 1, 0)), (0, (0, 0, 1, 1, 1, 1)),
                             (0, (0, 0, 1, 1, 1, 3)), (0, (1, 0, -1, 0, 0, -1)), (1, (0, 1, 1, 2, 0, 2)),
                             (1, (0, 1, 1, 0, 0, 6)), (1, (0, 1, 1, 0, 0, -2)), (1, (0, 1, -1, 0, 0, 2)),
                             (1, (0, 1, 1, -1, 0, 2))):
            reader = self.changed(plain, number, link)
            self.assertIs(is_reader(web, reader), True)
            self.assertIs(is_folded(web, reader), True, link)
            self.assertIs(is_plain_reader(web, reader), False, link)
        self.assertIs(is_plain_reader(web, (plain[0], plain[1][::-1])), False)

    def test_needless_cells(self):
        for lots, needless in (((2, 3), True), ((4, 6), True), ((2, 1), False), ((0, 0), True), ((6, 9), True), ((4, 3), None)):
            reader = (((0, lots[0]), (1, lots[1])), ((0, 0, 1, 0, 1, 0),))
            self.assertIs(is_plain_reader(BRIDGE, reader), needless is False, lots)
        # Cell 0 is never needless.
        self.assertIs(is_plain_reader(BRIDGE, (((0, 2), (1, 1)), ((0, 0, 1, 0, 1, 0),))), True)
        # A cell with a link from itself to itself has two of them over its ways.
        web = (2, ((0, 1, 1, 1), (1, 1, 1, 1)))
        reader = (((0, 0), (1, 0)), ((0, 0, 1, 0, 1, 0), (1, 1, 1, 0, 1, 0)))
        self.assertIs(is_plain_reader(web, reader), True)
        # The lot is compared without its sign.
        self.assertIs(is_plain_reader((2, ((0, 1, 2, -3),)), (((0, 2), (1, 3)), ((0, 0, 1, 0, 1, 0),))), False)

    def test_cells_stand_in_the_order_in_which_they_are_met(self):
        reader = span_reader(KLEIN, 0, ((0, 0, ((0, 1, 0), (0, 1, 1), (0, 1, 0))),))
        self.assertEqual(len(reader[0]), 3)
        swapped = {0: 0, 1: 2, 2: 1}
        links = tuple((swapped[u], t, s, near, swapped[x], far) for u, t, s, near, x, far in reader[1])
        self.assertIs(is_folded(KLEIN, (reader[0], links)), True)
        self.assertIs(is_plain_reader(KLEIN, (reader[0], links)), False)
        self.assertIs(is_plain_reader(KLEIN, reader), True)

    def test_far_turns_of_any_size_without_lots(self):
        for far in (-10 ** 400, -1, 0, 5, 10 ** 400):
            self.assertIs(is_plain_reader(TURNING, (((0, 0),), ((0, 0, 1, 1, 0, far),))), True)

    def test_readers_that_are_not_folded(self):
        self.assertIs(is_plain_reader(TURNING, (((0, 0), (0, 0)), ())), False)
        self.assertIs(is_plain_reader(TURNING, (((0, 1),), ((0, 0, 1, 0, 0, 0), (0, 0, 1, 0, 0, 0)))), False)

    def test_spoilt_plain_readers(self):
        for web, room, given in given_in(512, 60):
            reader = span_reader(web, room, given)
            for number, (u, t, s, near, x, far) in enumerate(reader[1]):
                for link in ((u, t, s, near + 1, x, far), (u, t, s, near, x, far + 1), (u, t, s, near, x, far - 7),
                             (x, t, -s, -far, u, -near), (u, t, s, near + ends(web, t, s)[2], x, far - ends(web, t, s)[3])):
                    other = self.changed(reader, number, link)
                    expected = is_folded_by_words(web, other) and is_plain_by_words(web, other)
                    self.assertIs(is_plain_reader(web, other), expected, (web, other))


class ReadsTest(unittest.TestCase):
    def test_reading(self):
        reader = (((0, 3),), ((0, 0, 1, 0, 0, 0),))
        for turns in range(-7, 8):
            self.assertIs(reads_walk(DOUBLING, reader, (0, turns, ())), turns % 3 == 0)
            self.assertIs(reads_walk(DOUBLING, reader, (0, turns, ((0, 1, 6),))), turns % 3 == 0)
            self.assertIs(reads_walk(DOUBLING, reader, (0, turns, ((0, 1, turns),))), True)
            self.assertIs(reads_walk(DOUBLING, reader, (0, turns, ((0, 1, -2 * turns), (0, -1, 0)))), True)
        self.assertIs(reads_walk(DOUBLING, (((0, 0),), ()), (0, 1, ((0, 1, -2), (0, -1, 0)))), True)
        self.assertIs(reads_walk(DOUBLING, (((0, 0),), ()), (0, 0, ((0, 1, -1), (0, -1, 0)))), False)

    def test_walks_that_are_not_closed_or_begin_elsewhere(self):
        reader = (((0, 1), (1, 1)), ((0, 0, 1, 0, 1, 0),))
        self.assertIs(is_folded(BRIDGE, reader), True)
        self.assertIs(reads_walk(BRIDGE, reader, (0, 0, ())), True)
        self.assertIs(reads_walk(BRIDGE, reader, (0, 3, ((0, 1, 5), (0, -1, 1)))), True)
        self.assertIs(reads_walk(BRIDGE, reader, (0, 0, ((0, 1, 0),))), False)
        self.assertIs(reads_walk(BRIDGE, reader, (1, 0, ())), False)
        self.assertIs(reads_walk(BRIDGE, reader, (1, 0, ((0, -1, 0),))), False)
        self.assertIs(reads_walk(BRIDGE, reader, (1, 0, ((0, -1, 1), (0, 1, 0)))), False)

    def test_the_walk_need_not_be_plain(self):
        chance = random.Random(521)
        for web, room, given in given_in(522, 60):
            reader = span_reader(web, room, given)
            for _ in range(4):
                walk = some_closed(chance, web, 6, room)
                self.assertEqual(reads_walk(web, reader, walk), reads_walk(web, reader, plain_by_words(web, walk)))
                self.assertEqual(reads_walk(web, reader, walk), reads_by_words(web, reader, walk))

    def test_many_walks(self):
        chance = random.Random(523)
        counts = {True: 0, False: 0}
        for web, room, given in given_in(524, 120):
            reader = span_reader(web, room, given)
            for _ in range(4):
                walk = some_product(chance, web, room, given)
                self.assertIs(reads_walk(web, reader, walk), True)
                other = joined(walk, some_closed(chance, web, 2, room, 2))
                told = reads_by_words(web, reader, other)
                counts[told] += 1
                self.assertIs(reads_walk(web, reader, other), told)
        self.assertGreater(min(counts.values()), 50)

    def test_spans_of_an_index(self):
        chance = random.Random(525)
        for web, room, given, table, index in tables_in(526, 60):
            reader = span_reader(web, room, given)
            for _ in range(8):
                walk = some_closed(chance, web, 5, room)
                self.assertIs(reads_walk(web, reader, walk), place_behind(web, table, walk) == 0, (web, given, walk))

    def test_great_turns(self):
        reader = (((0, 10 ** 400),), ())
        self.assertIs(reads_walk(STILL, reader, (0, 0, ())), True)
        self.assertIs(reads_walk(STILL, (((0, 10 ** 100),), ()), (0, 10 ** 299, ())), True)
        self.assertIs(reads_walk(STILL, (((0, 10 ** 100),), ()), (0, 10 ** 299 + 1, ())), False)


class ReaderWalksTest(unittest.TestCase):
    def test_walks(self):
        self.assertEqual(reader_walks(STILL, (((0, 0),), ())), ())
        self.assertEqual(reader_walks(STILL, (((0, 5),), ())), ((0, 5, ()),))
        self.assertEqual(reader_walks(DOUBLING, (((0, 3),), ((0, 0, 1, 0, 0, 0),))), ((0, 3, ()), E))
        self.assertEqual(reader_walks(BRIDGE, (((0, 2), (1, 1)), ((0, 0, 1, 1, 1, 0),))),
                         ((0, 2, ()), (0, 1, ((0, 1, 1), (0, -1, -1)))))
        reader = (((0, 0), (0, 0)), ((0, 0, 1, 0, 1, 0), (0, 0, -1, 0, 1, 5)))
        self.assertEqual(reader_walks(KLEIN, reader), ((0, 0, ((0, -1, 0), (0, -1, -5))),))

    def test_plain_walks_are_told(self):
        # 3 turns in room 1 come out as 2 in room 0.
        self.assertEqual(reader_walks((2, ((0, 1, 2, 3), (1, 1, 5, 5))),
                                      (((0, 4), (1, 3)), ((0, 0, 1, 0, 1, 0), (1, 1, 1, 0, 1, 0))))[1], (0, 2, ()))

    def test_they_have_the_span_of_the_reader(self):
        for web, room, given in given_in(531, 150):
            reader = span_reader(web, room, given)
            try:
                walks = reader_walks(web, reader)
            except TooMany as error:
                self.assertEqual(error.what, "walks")
                continue
            cells, links = reader
            self.assertEqual(len(walks), sum(lot > 0 for _, lot in cells) + len(links) - len(cells) + 1)
            for walk in walks:
                self.assertEqual(walk, plain_by_words(web, walk))
            if sum(len(walk[2]) for walk in walks) <= 60:
                self.assertEqual(span_reader(web, room, walks), reader)

    def test_their_order(self):
        for web, room, given in given_in(532, 80):
            reader = span_reader(web, room, given)
            cells, links = reader
            ways, expected = {0: (room, 0, ())}, []
            rings = []
            for u, t, s, near, x, far in links:
                along = joined(ways[u], (cells[u][0], near, ((t, s, far),)))
                if x in ways:
                    rings.append((along, x))
                else:
                    ways[x] = along
            for x, (v, lot) in enumerate(cells):
                if lot:
                    expected.append(joined(ways[x], (v, lot, ()), back(web, ways[x])))
            expected += [joined(along, back(web, ways[x])) for along, x in rings]
            if len(expected) <= 12:
                told = reader_walks(web, reader)
                self.assertEqual(told, tuple(plain_by_words(web, walk) for walk in expected))

    def test_12_and_13_walks(self):
        web = (1, ((0, 0, 7, 7), (0, 0, 6, 6)))
        links = tuple((0, 0, 1, near, 0, 0) for near in range(7)) + tuple((0, 1, 1, near, 0, 0) for near in range(6))
        reader = (((0, 0),), links)
        with self.assertRaises(TooMany) as caught:
            reader_walks(web, reader)
        self.assertEqual(caught.exception.what, "walks")
        for left in (links[1:], links[:-1]):
            self.assertEqual(len(reader_walks(web, (((0, 0),), left))), 12)
        reader = (((0, 42),), links[:-2])
        self.assertEqual(len(reader_walks(web, reader)), 12)
        with self.assertRaises(TooMany):
            reader_walks(web, (((0, 42),), links[:-1]))

    def test_walks_that_are_too_long_or_too_great(self):
        with self.assertRaises(TooGreat) as caught:
            reader_walks(STILL, (((0, 10 ** 300),), ()))
        self.assertEqual(caught.exception.what, "turns")
        self.assertEqual(reader_walks(STILL, (((0, 10 ** 300 - 1),), ())), ((0, 10 ** 300 - 1, ()),))
        for size, right in ((30, True), (31, False)):
            # A row of cells, with one link more at the last one, a ring of its own.
            web = (1, ((0, 0, 1, 1), (0, 0, 1, 1)))
            links = tuple((i, 0, 1, 0, i + 1, 0) for i in range(size - 1)) + ((size - 1, 1, 1, 0, size - 1, 0),)
            reader = (((0, 0),) * size, links)
            self.assertIs(is_plain_reader(web, reader), True)
            if right:
                self.assertEqual(len(reader_walks(web, reader)[0][2]), 59)
            else:
                with self.assertRaises(TooMany) as caught:
                    reader_walks(web, reader)
                self.assertEqual(caught.exception.what, "steps")

    def test_the_number_of_walks_goes_first(self):
        web = (1, ((0, 0, 7, 7), (0, 0, 7, 7)))
        links = tuple((0, t, 1, near, 0, 10 ** 301) for t in (0, 1) for near in range(7))
        with self.assertRaises(TooMany) as caught:
            reader_walks(web, (((0, 0),), links))
        self.assertEqual(caught.exception.what, "walks")
        with self.assertRaises(TooGreat):
            reader_walks(web, (((0, 0),), links[:5]))


class GivenTest(unittest.TestCase):
    def test_which_error_goes_first(self):
        web = (2, ((0, 1, 2, 3), (0, 0, 1, 1)))
        open_walk, elsewhere = (0, 1, ((0, 1, 2),)), (1, 0, ((0, -1, 0),))
        long = (0, 0, ((1, 1, 0),) * 60)
        for given, error, value in (
                ((open_walk,), NotClosed, open_walk), ((elsewhere,), NotInOne, 1), ((E, open_walk, elsewhere), NotClosed, E),
                (((0, 1, ()), elsewhere, open_walk), NotInOne, 1), ((long, long, elsewhere), NotInOne, 1),
                ((long, long, open_walk), NotClosed, open_walk)):
            with self.assertRaises(error) as caught:
                span_reader(web, 0, given)
            self.assertEqual(caught.exception.room if error == NotInOne else caught.exception.walk, value)
        for given, what in (((open_walk,) * 13, "walks"), ((elsewhere,) * 13, "walks"), ((long,) * 2, "steps"),
                            ((long,) * 13, "walks"), ((long, (0, 0, ((1, 1, 0),))), "steps")):
            with self.assertRaises(TooMany) as caught:
                span_reader(web, 0, given)
            self.assertEqual(caught.exception.what, what)
        self.assertEqual(len(span_reader(web, 0, (long,))[0]), 60)

    def test_one_given_walk(self):
        for web in WEBS:
            for walk in closed_in(web, 541, 8, 5):
                reader = span_reader(web, walk[0], (walk,))
                for other in (walk, joined(walk, walk), back(web, joined(walk, walk, walk))):
                    self.assertIs(reads_walk(web, reader, other), True)
