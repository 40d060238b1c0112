import random
import unittest

from tests.samples import BRIDGE, DOUBLING, EVEN, KLEIN, LONE, OTHER_KINDS, PAIR, PIECES, STILL, TURNING, some_closed, spoilt
from tests.spansamples import closed_at_place, place_behind, power_of, some_table, some_web, tables_in
from tests.test_readers import given_in, is_folded_by_words, is_plain_by_words, reads_by_words
from tubewords.errors import NotClosed, NotInOne, TooGreat, TooMany
from tubewords.readers import reader_walks, span_reader
from tubewords.spans import span_index
from tubewords.spantables import is_span_table, span_table, table_reader
from tubewords.webs import piece_of

E = (0, 0, ((0, 1, 0),))
FORK = (2, ((0, 1, 2, 1),))


def is_table_by_words(web, room, value):
    """[50], point by point, for a pair of a tuple for each room and a tuple for each tie."""
    turns, crossings = value
    d = len(turns[room])
    piece = piece_of(web, room)
    orders = [turns[v] for v in piece] + [crossings[t] for t, tie in enumerate(web[1]) if tie[0] in piece]
    if not 1 <= d <= 60 or any(sorted(order) != list(range(d)) for order in orders):
        return False
    reached = {(room, 0)}
    for t, (v, w, p, q) in enumerate(web[1]):
        if v in piece:
            ahead, behind = power_of(turns[v], p), power_of(turns[w], q)
            if any(crossings[t][ahead[k]] != behind[crossings[t][k]] for k in range(d)):
                return False
    for _ in range(d * len(piece)):
        found = {(v, turns[v][k]) for v, k in reached}
        for t, (v, w, _, _) in enumerate(web[1]):
            found |= {(w, crossings[t][k]) for u, k in reached if u == v and v in piece}
            found |= {(v, crossings[t].index(k)) for u, k in reached if u == w and w in piece}
        if found <= reached:
            break
        reached |= found
    return len(reached) == d * len(piece)


def within_piece(web, room, table):
    """A table with () outside of the piece of a room."""
    piece = piece_of(web, room)
    turns = tuple([order if v in piece else () for v, order in enumerate(table[0])])
    return (turns, tuple([order if tie[0] in piece else () for tie, order in zip(web[1], table[1])]))


def some_span_tables(seed, many, most=7):
    """Webs, rooms and span tables."""
    chance = random.Random(seed)
    found = []
    while len(found) < many:
        web = chance.choice((BRIDGE, EVEN, KLEIN, PAIR, PIECES, some_web(chance), some_web(chance)))
        table = some_table(chance, web, chance.randint(1, most))
        room = chance.randrange(web[0])
        if table is not None:
            value = within_piece(web, room, table)
            if is_table_by_words(web, room, value):
                found.append((web, room, value))
    return found


class SpanTableTest(unittest.TestCase):
    def test_one_place(self):
        for web in (TURNING, BRIDGE, EVEN, STILL):
            sources, _ = closed_at_place(web, (((0,),) * web[0], ((0,),) * len(web[1])), 0)
            self.assertEqual(span_table(web, 0, tuple(sources)), (((0,),) * web[0], ((0,),) * len(web[1])))

    def test_the_index_of_the_document(self):
        # The span of one turn in room 1 has the index 2.
        table = span_table(FORK, 1, ((1, 1, ()),))
        self.assertIn(table, ((((1, 0), (0, 1)), ((0, 1),)), (((1, 0), (0, 1)), ((1, 0),))))
        self.assertTrue(is_table_by_words(FORK, 1, table))

    def test_no_index(self):
        for web, given in ((TURNING, ()), (TURNING, ((0, 1, ()),)), (EVEN, (E,)), (STILL, ()), (STILL, ((0, 0, ()),)),
                           (EVEN, ((0, 2, ()), E)), (BRIDGE, ((0, 1, ()),))):
            self.assertIsNone(span_index(web, 0, given))
            self.assertIsNone(span_table(web, 0, given))

    def test_rooms_of_other_pieces(self):
        web = (4, ((0, 2, 1, 1), (1, 1, 2, 3)))
        table = span_table(web, 2, ((2, 3, ()),))
        self.assertEqual((table[0][1], table[0][3], table[1][1]), ((), (), ()))
        self.assertEqual([len(order) for order in (table[0][0], table[0][2], table[1][0])], [3, 3, 3])
        self.assertEqual(span_table(LONE, 2, ((2, 2, ()),)), (((), (), (1, 0), ()), ()))
        self.assertEqual(span_table((2, ((0, 0, 2, 3),)), 1, ((1, -3, ()),)), (((), (1, 2, 0)), ((),)))

    def test_60_and_61_places(self):
        self.assertEqual(span_table(STILL, 0, ((0, 60, ()),)), ((tuple(range(1, 60)) + (0,),), ()))
        for given in ((0, 61, ()), (0, -1000, ()), (0, 10 ** 299, ())):
            with self.assertRaises(TooGreat) as caught:
                span_table(STILL, 0, (given,))
            self.assertEqual(caught.exception.what, "index")
        # The index is the same for each room of the piece, whatever the lots are.
        web = (2, ((0, 1, 60, 1),))
        table = span_table(web, 1, ((1, 1, ()),))
        self.assertEqual([len(order) for order in table[0] + table[1]], [60] * 3)
        self.assertTrue(is_table_by_words(web, 1, table))
        with self.assertRaises(TooGreat):
            span_table((2, ((0, 1, 61, 1),)), 1, ((1, 1, ()),))

    def test_errors_of_given_walks_come_first(self):
        long = (0, 0, ((0, 1, 0),) * 31)
        for web, given, error, name, worth in (
                (STILL, ((0, 61, ()),) * 13, TooMany, "what", "walks"),
                (BRIDGE, ((0, 61, ()), (1, 1, ()), (0, 0, ((0, 1, 0),))), NotInOne, "room", 1),
                (BRIDGE, ((0, 0, ((0, 1, 0),)), (1, 1, ())), NotClosed, "walk", (0, 0, ((0, 1, 0),))),
                (EVEN, (long, long), TooMany, "what", "steps")):
            with self.assertRaises(error) as caught:
                span_table(web, 0, given)
            self.assertEqual(getattr(caught.exception, name), worth)

    def test_tables_of_spans(self):
        chance = random.Random(2101)
        for web, room, given, other, index in tables_in(2102, 150):
            table = span_table(web, room, given)
            self.assertEqual(len(table[0][room]), index)
            self.assertTrue(is_table_by_words(web, room, table))
            self.assertEqual(table, within_piece(web, room, table))
            # The table of which the given walks were made tells the same span.
            for _ in range(5):
                walk = some_closed(chance, web, 5, room)
                self.assertIs(place_behind(web, table, walk) == 0, place_behind(web, other, walk) == 0)

    def test_other_spans(self):
        seen = {True: 0, False: 0}
        for web, room, given in given_in(2103, 300):
            index = span_index(web, room, given)
            seen[index is not None] += 1
            if index is None:
                self.assertIsNone(span_table(web, room, given))
            elif index > 60:
                with self.assertRaises(TooGreat):
                    span_table(web, room, given)
            else:
                table = span_table(web, room, given)
                self.assertTrue(is_table_by_words(web, room, table))
                self.assertTrue(all(place_behind(web, table, walk) == 0 for walk in given))
                self.assertEqual(len(table[0][room]), index)
        self.assertGreater(min(seen.values()), 30)


class IsSpanTableTest(unittest.TestCase):
    def wrong(self, web, room, *values):
        for value in values:
            self.assertIs(is_span_table(web, room, value), False, value)

    def right(self, web, room, *values):
        for value in values:
            self.assertIs(is_span_table(web, room, value), True, value)

    def test_tables(self):
        self.right(STILL, 0, (((0,),), ()), (((1, 0),), ()), (((2, 0, 1),), ()), (((1, 2, 3, 0),), ()))
        self.right(EVEN, 0, (((1, 0),), ((0, 1),)), (((1, 0),), ((1, 0),)), (((0, 1),), ((1, 0),)))
        self.right(FORK, 1, (((1, 0), (0, 1)), ((0, 1),)), (((1, 0), (0, 1)), ((1, 0),)))
        self.right(DOUBLING, 0, (((1, 2, 0),), ((0, 2, 1),)))
        self.right((1, ((0, 0, 1, -1),)), 0, (((1, 2, 0),), ((0, 2, 1),)))

    def test_ties_that_do_not_fit(self):
        self.wrong(DOUBLING, 0, (((1, 2, 0),), ((0, 1, 2),)), (((1, 2, 0),), ((1, 2, 0),)), (((1, 0),), ((0, 1),)))
        self.wrong(FORK, 1, (((0, 1), (1, 0)), ((0, 1),)))
        self.wrong((1, ((0, 0, 1, 1),)), 0, (((1, 2, 0),), ((0, 2, 1),)))
        # All ties of the piece and all places are looked at.
        web = (1, ((0, 0, 1, 1), (0, 0, 1, -1)))
        self.right(web, 0, (((1, 2, 0),), ((0, 1, 2), (0, 2, 1))))
        self.wrong(web, 0, (((1, 2, 0),), ((0, 1, 2), (0, 1, 2))), (((1, 2, 0),), ((0, 2, 1), (0, 2, 1))))
        self.wrong((1, ((0, 0, 1, 1),)), 0, (((1, 0, 3, 2, 5, 4),), ((0, 1, 2, 4, 5, 3),)))

    def test_places_that_are_not_reached(self):
        self.wrong(STILL, 0, (((0, 1),), ()), (((0, 2, 1),), ()), (((1, 0, 3, 2),), ()))
        self.wrong(EVEN, 0, (((0, 1),), ((0, 1),)), (((0, 2, 1),), ((0, 1, 2),)))
        self.right(EVEN, 0, (((0, 2, 1),), ((1, 0, 2),)))
        # Crossing backwards reaches places, too.
        web = (2, ((0, 1, 1, 1),))
        self.right(web, 1, (((1, 2, 0), (1, 2, 0)), ((0, 1, 2),)))
        self.wrong(web, 1, (((1, 0, 2), (1, 0, 2)), ((0, 1, 2),)))
        # Over room 1 no turn reaches place 1: it is reached by way of room 0.
        self.right(FORK, 1, (((1, 0), (0, 1)), ((0, 1),)))

    def test_entries_that_are_no_tuples_of_0_to_d_less_1(self):
        for order in ((0, 0), (0, 2), (1, 2), (-1, 0), (0, -1), [0, 1], (0,), (0, 1, 2), (), 0, None, "01", (0, "1"), (0, None),
                      ((0,), 1), (0, (1,)), ("0", "1"), (True, False), (False, True), (0, True), (False, 1)):
            self.wrong(EVEN, 0, ((order,), ((0, 1),)), (((1, 0),), (order,)))
        for order in ((-1, 0), (1, -2), (2, 1), (1, 1), (2, 0), (1, 0, 1), (1, 2), (-2, -1), (True, 0), (1, False)):
            self.wrong(STILL, 0, ((order,), ()))

    def test_outside_of_the_piece(self):
        web = (3, ((0, 0, 2, 2), (1, 1, 1, 1)))
        self.right(web, 0, (((1, 0), (), ()), ((0, 1), ())))
        self.right(web, 2, (((), (), (0,)), ((), ())))
        for order in ((0, 1), (1, 0), (0,), None, 0, False, "", "()", ((),)):
            self.wrong(web, 0, (((1, 0), order, ()), ((0, 1), ())), (((1, 0), (), order), ((0, 1), ())),
                       (((1, 0), (), ()), ((0, 1), order)))

    def test_d_unlike(self):
        web = (2, ((0, 1, 1, 1),))
        self.right(web, 0, (((1, 0), (1, 0)), ((0, 1),)))
        self.wrong(web, 0, (((1, 0), (1, 2, 0)), ((0, 1),)), (((1, 0), (0,)), ((0, 1),)), (((1, 0), (1, 0)), ((0, 1, 2),)),
                   (((1, 0), (1, 0)), ((0,),)), (((1, 0), ()), ((0, 1),)), (((), (1, 0)), ((0, 1),)), (((1, 0), (1, 0)), ((),)),
                   (((), ()), ((),)))

    def test_60_and_61_places(self):
        for d, right in ((59, True), (60, True), (61, False), (200, False)):
            self.assertIs(is_span_table(STILL, 0, ((tuple(range(1, d)) + (0,),), ())), right)

    def test_how_many(self):
        table = (((1, 0),), ((0, 1),))
        self.right(EVEN, 0, table)
        self.wrong(EVEN, 0, (table[0] * 2, table[1]), (table[0], table[1] * 2), ((), table[1]), (table[0], ()), table + ((),),
                   table[:1], (), table[0], (table,))
        self.wrong(STILL, 0, (((0,),),), (((0,),), ((0,),)))

    def test_other_kinds(self):
        for value in OTHER_KINDS + (0, ((), ()), (((),), ()), "ab", ("a", "b"), (("a",), ()), ((5,), ()), ((None,), ())):
            self.wrong(STILL, 0, value, (value, ()))
            if value != ():
                self.wrong(STILL, 0, (((0,),), value))
            self.wrong(EVEN, 0, value, (value, ((0,),)), (((0,),), value), ((value,), ((0,),)), (((0,),), (value,)))
        self.wrong(STILL, 0, (((((0,),),),), ()))
        self.wrong(STILL, 0, (((False,),), ()))

    def test_spoilt_tables(self):
        for web, room, table in some_span_tables(2104, 12, 4):
            self.right(web, room, table)
            for path, value in spoilt(table):
                # Only integers in orders may be bent to others that fit again; () may be meant.
                if path != () and isinstance(value, tuple):
                    try:
                        expected = is_table_by_words(web, room, value) and value == within_piece(web, room, value)
                    except (TypeError, IndexError, ValueError):
                        expected = False
                    if not (expected and len(value[0]) == web[0] and len(value[1]) == len(web[1])):
                        self.wrong(web, room, value)

    def test_tables_by_words(self):
        chance = random.Random(2105)
        counts = {True: 0, False: 0}
        for _ in range(1500):
            web = chance.choice((BRIDGE, EVEN, DOUBLING, KLEIN, STILL, LONE, PIECES, some_web(chance)))
            room = chance.randrange(web[0])
            table = some_table(chance, web, chance.randint(1, 3))
            if table is None:
                continue
            table = within_piece(web, room, table)
            if chance.random() < 0.3:
                orders = [list(order) for order in table[0]]
                chance.shuffle(orders[room])
                table = (tuple(map(tuple, orders)), table[1])
            expected = is_table_by_words(web, room, table)
            counts[expected] += 1
            self.assertIs(is_span_table(web, room, table), expected, (web, room, table))
        self.assertGreater(min(counts.values()), 100)

    def test_told_tables(self):
        for web, room, given, _, _ in tables_in(2106, 60):
            self.right(web, room, span_table(web, room, given))
        self.right(STILL, 0, span_table(STILL, 0, ((0, 60, ()),)))


class TableReaderTest(unittest.TestCase):
    def test_readers(self):
        self.assertEqual(table_reader(STILL, 0, (((1, 2, 0),), ())), (((0, 3),), ()))
        self.assertEqual(table_reader(TURNING, 0, (((0,),), ((0,),))), (((0, 1),), ((0, 0, 1, 0, 0, 0),)))
        # The cell over room 0 is needless.
        self.assertEqual(table_reader(FORK, 1, (((1, 0), (0, 1)), ((0, 1),))), (((1, 1),), ()))
        self.assertEqual(table_reader(FORK, 1, (((1, 0), (0, 1)), ((1, 0),))), (((1, 1),), ()))
        self.assertEqual(table_reader(LONE, 2, (((), (), (1, 0), ()), ())), (((2, 2),), ()))

    def test_needless_cells_behind_one_another(self):
        web = (3, ((0, 1, 2, 1), (1, 2, 3, 1)))
        table = span_table(web, 2, ((2, 1, ()),))
        self.assertEqual(len(table[0][2]), 6)
        self.assertEqual(table_reader(web, 2, table), (((2, 1),), ()))

    def test_told_tables(self):
        for web, room, given, _, _ in tables_in(2107, 200):
            self.assertEqual(table_reader(web, room, span_table(web, room, given)), span_reader(web, room, given))
        for d in (1, 2, 59, 60):
            given = ((0, d, ()),)
            self.assertEqual(table_reader(STILL, 0, span_table(STILL, 0, given)), span_reader(STILL, 0, given))
        for web, room, given in given_in(2108, 200):
            index = span_index(web, room, given)
            if index is not None and index <= 60:
                self.assertEqual(table_reader(web, room, span_table(web, room, given)), span_reader(web, room, given))

    def test_some_tables(self):
        chance = random.Random(2109)
        for web, room, table in some_span_tables(2110, 80):
            reader = table_reader(web, room, table)
            self.assertTrue(is_folded_by_words(web, reader) and is_plain_by_words(web, reader))
            self.assertEqual(reader[0][0][0], room)
            for _ in range(4):
                walk = some_closed(chance, web, 4, room)
                self.assertIs(reads_by_words(web, reader, walk), place_behind(web, table, walk) == 0)

    def test_same_spans_and_other_numbers_for_places(self):
        chance = random.Random(2111)
        for web, room, table in some_span_tables(2112, 80):
            d = len(table[0][room])
            names = []
            for v in range(web[0]):
                order = list(range(1 if v == room else 0, d))
                chance.shuffle(order)
                names.append([0] + order if v == room else order)
            turns = [tuple([names[v][order[names[v].index(k)]] for k in range(d)]) if order else ()
                     for v, order in enumerate(table[0])]
            crossings = [tuple([names[w][order[names[v].index(k)]] for k in range(d)]) if order else ()
                         for (v, w, _, _), order in zip(web[1], table[1])]
            other = (tuple(turns), tuple(crossings))
            self.assertTrue(is_span_table(web, room, other))
            self.assertEqual(table_reader(web, room, other), table_reader(web, room, table))

    def test_readers_tell_the_span(self):
        found = 0
        for web, room, table in some_span_tables(2113, 60):
            try:
                given = reader_walks(web, table_reader(web, room, table))
                told = span_table(web, room, given)
            except TooMany:
                continue
            found += 1
            self.assertEqual(len(told[0][room]), len(table[0][room]))
            self.assertEqual(table_reader(web, room, told), table_reader(web, room, table))
        self.assertGreater(found, 40)
