import random
import unittest
from math import gcd

from tests.samples import (
    BRIDGE, DOUBLING, EVEN, KLEIN, OTHER_KINDS, STILL, TURNING, back, ends, joined, plain_by_words, same,
    some_closed, spoilt)
from tests.spansamples import place_behind, some_product, tables_in
from tests.test_readers import given_in, lcm, over_ways
from tubewords.errors import NotClosed, NotInOne, TooMany
from tubewords.readers import span_reader
from tubewords.spans import free_rank, in_span, same_span, shows_in_span, span_index, span_paper
from tubewords.turned import goes_on
from tubewords.webs import piece_of, ways_out

E = (0, 0, ((0, 1, 0),))
FREE_WEB = (1, ((0, 0, 5, 5), (0, 0, 7, 7)))
LIMIT = 10 ** 2000


def power_by_words(web, walk, count):
    """A power of a walk that stays, by doubling; of any walk for small counts."""
    if count < 0:
        walk, count = back(web, walk), -count
    result = (walk[0], 0, ())
    while count:
        if count % 2:
            result = plain_by_words(web, joined(result, walk))
        walk = plain_by_words(web, joined(walk, walk))
        count //= 2
    return result


def walks_of_paper(web, room, given, paper):
    """The plain walks of the rows of a span paper, told once more, looking at no bounds."""
    found = []
    for row in paper:
        if row[0] == "idle":
            walk = (room, 0, ())
        elif row[0] == "given":
            walk = given[row[1]]
        elif row[0] == "opposite":
            walk = back(web, found[row[1]])
        elif row[0] == "joined":
            walk = joined(found[row[1]], found[row[2]])
        else:
            walk = power_by_words(web, found[row[1]], row[2])
        found.append(plain_by_words(web, walk))
    return found


def short_by_words(web):
    """The ways that are short: those from which one cannot go on for as many crossings as there are ways, plus 1."""
    ways = [(t, s) for t in range(len(web[1])) for s in (1, -1)]

    def behind(way):
        _, w, _, q = ends(web, *way)
        return [other for other in ways_out(web, w) if other != (way[0], -way[1]) or abs(q) != 1]

    at = {way: {way} for way in ways}
    for _ in range(len(ways) + 1):
        at = {way: {other for last in at[way] for other in behind(last)} for way in ways}
    return {way for way in ways if not at[way]}


def full_reader(web, reader, most=400):
    """The full reader of a plain reader, None if the span has no index, by [48] word by word; 0 if it is too large."""
    cells, links = list(reader[0]), list(reader[1])
    if any(lot == 0 for _, lot in cells):
        return None
    short = short_by_words(web)
    for cell in range(len(cells)):
        for way in ways_out(web, cells[cell][0]):
            count = sum(row[:2] == (cell, way) for row in over_ways((cells, links)))
            if way not in short and count < gcd(cells[cell][1], ends(web, *way)[2]):
                return None
    cell = 0
    while cell < len(cells):
        m = cells[cell][1]
        for way in ways_out(web, cells[cell][0]):
            _, w, ahead, behind = ends(web, *way)
            apart = gcd(m, ahead)
            near = [row[2] % apart for row in over_ways((cells, links)) if row[:2] == (cell, way)]
            for other in range(apart):
                if other not in near:
                    links.append((cell, way[0], way[1], other, len(cells), 0))
                    cells.append((w, abs(behind) * lcm(m, ahead) // abs(ahead)))
                    if len(cells) > most:
                        return 0
        cell += 1
    return (tuple(cells), tuple(links))


class InSpanTest(unittest.TestCase):
    def test_in_span(self):
        self.assertIs(in_span(STILL, 0, ((0, 6, ()), (0, 10, ())), (0, -4, ())), True)
        self.assertIs(in_span(STILL, 0, ((0, 6, ()), (0, 10, ())), (0, 5, ())), False)
        self.assertIs(in_span(DOUBLING, 0, ((0, 3, ()), E), (0, 6, ((0, 1, 9), (0, 1, -3)))), True)
        self.assertIs(in_span(DOUBLING, 0, ((0, 3, ()),), E), False)
        self.assertIs(in_span(EVEN, 0, (E,), (0, 2, ((0, 1, -2),))), True)
        self.assertIs(in_span(EVEN, 0, (E,), (0, 2, ())), False)

    def test_no_given_walks(self):
        for given in ((), ((0, 0, ()),), ((0, 2, ((0, 1, -3), (0, -1, 0))),)):
            self.assertIs(in_span(TURNING, 0, given, (0, 0, ())), True)
            self.assertIs(in_span(TURNING, 0, given, (0, 2, ((0, 1, -3), (0, -1, 0)))), True)
            self.assertIs(in_span(TURNING, 0, given, (0, 1, ())), False)
            self.assertIs(in_span(TURNING, 0, given, E), False)

    def test_walks_that_cannot_be_in_it(self):
        self.assertIs(in_span(BRIDGE, 0, ((0, 1, ()),), (0, 1, ((0, 1, 0),))), False)
        self.assertIs(in_span(BRIDGE, 0, ((0, 1, ()),), (1, 0, ())), False)
        self.assertIs(in_span(BRIDGE, 0, (), (1, 0, ())), False)

    def test_spans_of_an_index(self):
        chance = random.Random(601)
        counts = {True: 0, False: 0}
        for web, room, given, table, _ in tables_in(602, 80):
            for _ in range(6):
                walk = some_closed(chance, web, 5, room)
                expected = place_behind(web, table, walk) == 0
                counts[expected] += 1
                self.assertIs(in_span(web, room, given, walk), expected)
        self.assertGreater(min(counts.values()), 50)

    def test_products_are_in_it(self):
        chance = random.Random(603)
        for web, room, given in given_in(604, 120):
            for _ in range(3):
                self.assertIs(in_span(web, room, given, some_product(chance, web, room, given)), True)

    def test_what_small_products_do_not_reach(self):
        # In a free span each walk is a product in just one shortest way.
        free = ((0, 1, ((0, 1, 2),)), (0, 2, ((1, 1, 3),)))
        near = {plain_by_words(FREE_WEB, (0, 0, ()))}
        for _ in range(3):
            near |= {plain_by_words(FREE_WEB, joined(walk, other)) for walk in near
                     for g in free for other in (g, back(FREE_WEB, g))}
        chance = random.Random(605)
        for walk in sorted(near):
            self.assertIs(in_span(FREE_WEB, 0, free, walk), True)
            other = joined(walk, (0, chance.randint(1, 9), ()))
            self.assertIs(in_span(FREE_WEB, 0, free, other), plain_by_words(FREE_WEB, other) in near)


class SameSpanTest(unittest.TestCase):
    def test_same_span(self):
        self.assertIs(same_span(STILL, 0, ((0, 6, ()), (0, 10, ())), ((0, -2, ()),)), True)
        self.assertIs(same_span(STILL, 0, ((0, 6, ()),), ((0, 3, ()),)), False)
        self.assertIs(same_span(DOUBLING, 0, ((0, 2, ()), E), ((0, 1, ()), E)), True)
        self.assertIs(same_span(DOUBLING, 0, ((0, 3, ()), E), ((0, 1, ()), E)), False)
        self.assertIs(same_span(DOUBLING, 0, ((0, 2, ()), (0, 0, ((0, -1, 0),))), (joined(E, (0, 2, ())), E)), True)
        self.assertIs(same_span(DOUBLING, 0, (), ((0, 0, ()),)), True)
        self.assertIs(same_span(DOUBLING, 0, (), (E,)), False)

    def test_many_spans(self):
        chance = random.Random(611)
        counts = {True: 0, False: 0}
        for web, room, given in given_in(612, 150):
            other = tuple(some_product(chance, web, room, given, 2) for _ in range(chance.randint(0, 3)))
            if chance.random() < 0.4:
                other += given
            if sum(len(walk[2]) for walk in other) > 60:
                continue
            expected = all(in_span(web, room, other, walk) for walk in given)
            counts[expected] += 1
            self.assertIs(same_span(web, room, given, other), expected)
            self.assertIs(same_span(web, room, other, given), expected)
        self.assertGreater(min(counts.values()), 20)


class IndexTest(unittest.TestCase):
    def test_example_of_the_document(self):
        self.assertEqual(span_index((2, ((0, 1, 2, 1),)), 1, ((1, 1, ()),)), 2)

    def test_indexes(self):
        self.assertEqual(span_index(STILL, 0, ((0, 6, ()),)), 6)
        self.assertIsNone(span_index(STILL, 0, ()))
        self.assertEqual(span_index(DOUBLING, 0, ((0, 3, ()), E)), 3)
        self.assertEqual(span_index(DOUBLING, 0, ((0, 1, ()), E)), 1)
        self.assertIsNone(span_index(DOUBLING, 0, ((0, 3, ()),)))
        self.assertIsNone(span_index(DOUBLING, 0, (E,)))
        self.assertEqual(span_index(DOUBLING, 0, ((0, 1, ()), (0, 0, ((0, 1, 0),) * 2))), 2)
        self.assertEqual(span_index(KLEIN, 0, ((0, 5, ()), (0, 0, ((0, 1, 0),) * 3))), 15)
        self.assertEqual(span_index(KLEIN, 0, ((0, 1, ((0, 1, 0),)), (0, 5, ()))), 5)
        self.assertIsNone(span_index(BRIDGE, 0, ((0, 1, ()),)))

    def test_webs_without_rings(self):
        for web, room, turns, index in (((2, ((0, 1, 1, 1),)), 0, 7, 7), ((2, ((0, 1, 3, 1),)), 0, 1, 1),
                                        ((2, ((0, 1, 3, 1),)), 1, 1, 3), ((2, ((0, 1, -3, 1),)), 1, 6, 18),
                                        ((3, ((0, 1, 5, 1), (0, 2, 7, 1))), 1, 1, 5),
                                        ((3, ((0, 1, 5, 1), (1, 2, 7, 1))), 2, 4, 140)):
            self.assertEqual(span_index(web, room, ((room, turns, ()),)), index, (web, room, turns))

    def test_spans_of_tables(self):
        seen = {}
        for web, room, given, _, index in tables_in(621, 150):
            self.assertEqual(span_index(web, room, given), index, (web, room, given))
            seen[index] = seen.get(index, 0) + 1
        self.assertEqual(sorted(seen), [1, 2, 3, 4, 5])

    def test_full_readers(self):
        counts = {True: 0, False: 0}
        for web, room, given in given_in(622, 250):
            reader = span_reader(web, room, given)
            full = full_reader(web, reader)
            told = span_index(web, room, given)
            if full is None:
                self.assertIsNone(told, (web, room, given))
                counts[False] += 1
            elif full != 0:
                counts[True] += 1
                cells, links = full
                for v in piece_of(web, room):
                    self.assertEqual(told, sum(lot for w, lot in cells if w == v), (web, room, given))
                for t, (v, _, p, _) in enumerate(web[1]):
                    if v in piece_of(web, room):
                        lots = [cells[u if s == 1 else x][1] for u, e, s, _, x, _ in links if e == t]
                        self.assertEqual(told, sum(lcm(m, p) // abs(p) for m in lots))
        self.assertGreater(min(counts.values()), 40)

    def test_great_indexes(self):
        web = (5, ((0, 1, 1000, 1), (1, 2, 999, 1), (2, 3, 1000, 1), (3, 4, 997, 1)))
        self.assertEqual(span_index(web, 4, ((4, 1, ()),)), 1000 * 999 * 1000 * 997)
        self.assertEqual(span_index(web, 0, ((0, 10 ** 299, ()),)), 10 ** 299)
        star = (5, ((0, 1, 1, 1000), (0, 2, 1, 1), (0, 3, 1, 1), (0, 4, 1, 1)))
        self.assertEqual(span_index(star, 1, ((1, 7, ()),)), 7)
        self.assertEqual(span_index(star, 0, ((0, 7, ()),)), 7000)

    def test_other_pieces_do_not_matter(self):
        web = (3, ((0, 0, 2, 3), (1, 2, 2, 1)))
        self.assertEqual(span_index(web, 2, ((2, 1, ()),)), 2)
        self.assertEqual(span_index(web, 0, ((0, 1, ()), E)), 1)


class RankTest(unittest.TestCase):
    def test_ranks(self):
        self.assertEqual(free_rank(STILL, 0, ()), 0)
        self.assertEqual(free_rank(STILL, 0, ((0, 0, ()),)), 0)
        self.assertIsNone(free_rank(STILL, 0, ((0, 5, ()),)))
        self.assertEqual(free_rank(TURNING, 0, (E,)), 1)
        self.assertEqual(free_rank(TURNING, 0, (E, E, (0, 0, ((0, 1, 0), (0, 1, 0))))), 1)
        self.assertEqual(free_rank(FREE_WEB, 0, (E, (0, 0, ((1, 1, 0),)))), 2)
        self.assertIsNone(free_rank(TURNING, 0, (E, (0, 2, ()))))
        self.assertIsNone(free_rank(KLEIN, 0, (E, (0, 0, ((0, 1, 1),)))))
        self.assertEqual(free_rank(FREE_WEB, 0, (E, (0, 1, ((0, 1, 2),)), (0, 3, ((1, 1, 0), (0, 1, 0))))), 3)

    def test_walks_that_stay(self):
        chance = random.Random(631)
        counts = {True: 0, False: 0}
        for web, room, given in given_in(632, 150):
            rank = free_rank(web, room, given)
            counts[rank is not None] += 1
            if rank is None:
                self.assertTrue(any(lot for _, lot in span_reader(web, room, given)[0]))
            else:
                self.assertLessEqual(rank, len(given))
                for _ in range(4):
                    walk = some_product(chance, web, room, given)
                    self.assertTrue(goes_on(web, walk) or same(web, walk, (room, 0, ())))
        self.assertGreater(min(counts.values()), 30)


class PaperTest(unittest.TestCase):
    def right(self, web, room, given, walk, paper):
        self.assertIs(shows_in_span(web, room, given, walk, paper), True, (web, given, walk, paper))

    def wrong(self, web, room, given, walk, paper):
        self.assertIs(shows_in_span(web, room, given, walk, paper), False, (web, given, walk, paper))

    def test_papers(self):
        chance = random.Random(641)
        counts = {True: 0, False: 0}
        for web, room, given in given_in(642, 200):
            for _ in range(3):
                walk = some_product(chance, web, room, given)
                if chance.random() < 0.4:
                    walk = joined(walk, some_closed(chance, web, 3, room, 2))
                if sum(len(other[2]) for other in given) + len(walk[2]) > 60:
                    continue
                told = in_span(web, room, given, walk)
                counts[told] += 1
                paper = span_paper(web, room, given, walk)
                self.assertEqual(paper is not None, told)
                if told:
                    self.right(web, room, given, walk, paper)
                    rows = walks_of_paper(web, room, given, paper)
                    self.assertTrue(same(web, rows[-1], walk))
                    for row, plain in zip(paper, rows):
                        self.assertLessEqual(len(plain[2]), 200)
                        self.assertTrue(all(abs(k) < LIMIT for k in [plain[1]] + [k for _, _, k in plain[2]]))
                        if row[0] == "power" and abs(row[2]) > 1:
                            self.assertFalse(goes_on(web, rows[row[1]]))
                    other = joined(walk, (room, 1, ()))
                    self.assertIs(shows_in_span(web, room, given, other, paper), same(web, walk, other))
        self.assertGreater(min(counts.values()), 40)

    def test_papers_of_spans_with_an_index(self):
        chance = random.Random(643)
        for web, room, given, table, _ in tables_in(644, 50):
            for _ in range(5):
                walk = some_closed(chance, web, 4, room)
                if sum(len(other[2]) for other in given) + len(walk[2]) <= 60:
                    paper = span_paper(web, room, given, walk)
                    self.assertEqual(paper is not None, place_behind(web, table, walk) == 0)
                    if paper is not None:
                        self.right(web, room, given, walk, paper)

    def test_the_idle_walk(self):
        for given in ((), (E,), ((0, 3, ()),)):
            paper = span_paper(TURNING, 0, given, (0, 0, ()))
            self.right(TURNING, 0, given, (0, 0, ()), paper)
            self.right(TURNING, 0, given, (0, 0, ()), (("idle",),))
            self.wrong(TURNING, 0, given, (0, 1, ()), (("idle",),))

    def test_walks_that_are_not_in_it(self):
        self.assertIsNone(span_paper(STILL, 0, ((0, 6, ()),), (0, 3, ())))
        self.assertIsNone(span_paper(BRIDGE, 0, ((0, 1, ()),), (0, 1, ((0, 1, 0),))))
        self.assertIsNone(span_paper(BRIDGE, 0, ((0, 1, ()),), (1, 0, ())))
        for walk in ((0, 1, ((0, 1, 0),)), (1, 0, ())):
            self.wrong(BRIDGE, 0, ((0, 1, ()),), walk, (("idle",),))
            self.wrong(BRIDGE, 0, ((0, 1, ()),), walk, (("given", 0),))

    def test_each_kind_of_row(self):
        given = ((0, 2, ()), E)
        for paper, walk in (((("idle",),), (0, 0, ())), ((("given", 0),), (0, 2, ())), ((("given", 1),), E),
                            ((("given", 1), ("opposite", 0)), (0, 0, ((0, -1, 0),))),
                            ((("given", 1), ("given", 0), ("joined", 0, 1)), (0, 0, ((0, 1, 2),))),
                            ((("given", 1), ("joined", 0, 0)), (0, 0, ((0, 1, 0), (0, 1, 0)))),
                            ((("given", 0), ("power", 0, -7)), (0, -14, ())),
                            ((("given", 0), ("power", 0, 10 ** 290)), (0, 2 * 10 ** 290, ())),
                            ((("given", 0), ("power", 0, 0)), (0, 0, ())),
                            ((("given", 0), ("idle",), ("given", 1)), E)):
            self.right(EVEN, 0, given, walk, paper)
            self.wrong(EVEN, 0, given, joined(walk, (0, 1, ())), paper)
            self.wrong(EVEN, 0, given, walk, paper + (("given", 2),))
            self.wrong(EVEN, 0, given, walk, (("opposite", 0),) + paper[1:])
            self.wrong(EVEN, 0, given, walk, ())

    def test_rows_name_earlier_rows_alone(self):
        given = ((0, 2, ()), E)
        for row in (("opposite", 1), ("opposite", 2), ("opposite", -1), ("joined", 0, 1), ("joined", 1, 0), ("joined", -1, 0),
                    ("joined", 0, -1), ("joined", 0, 2), ("power", 1, 1), ("power", 2, 1), ("power", -1, 1), ("power", 1, 0),
                    ("given", 2), ("given", -1), ("given", 3)):
            for walk in ((0, 0, ()), (0, 2, ()), (0, -2, ()), (0, 4, ()), E):
                self.wrong(EVEN, 0, given, walk, (("given", 0), row))
                self.wrong(EVEN, 0, given, walk, (("given", 0), row, ("given", 0)))
        self.right(EVEN, 0, given, (0, 4, ()), (("given", 0), ("joined", 0, 0)))
        self.wrong(EVEN, 0, (), (0, 0, ()), (("given", 0),))

    def test_powers_of_walks_that_go_on(self):
        given = (E, (0, 1, ((0, 1, 3), (0, -1, 0))))
        for count, walk in ((1, E), (-1, (0, 0, ((0, -1, 0),))), (0, (0, 0, ()))):
            self.right(EVEN, 0, given, walk, (("given", 0), ("power", 0, count)))
        for count, walk in ((2, (0, 0, ((0, 1, 0),) * 2)), (-2, (0, 0, ((0, -1, 0),) * 2)), (3, (0, 0, ((0, 1, 0),) * 3))):
            self.wrong(EVEN, 0, given, walk, (("given", 0), ("power", 0, count)))
            self.wrong(EVEN, 0, given, E, (("given", 0), ("power", 0, count), ("given", 0)))
        # A walk with steps may stay.
        stays = (0, 1, ((0, 1, 5), (0, -1, -1)))
        self.assertFalse(goes_on(EVEN, stays))
        for count in (2, -2, 7, 10 ** 40):
            power = power_by_words(EVEN, stays, count)
            self.right(EVEN, 0, (stays,), power, (("given", 0), ("power", 0, count)))

    def test_rows_of_200_and_201_steps(self):
        given = ((0, 0, ((0, 1, 0),) * 25), (0, 0, ((0, 1, 0),)))
        rows = (("given", 0), ("joined", 0, 0), ("joined", 1, 1), ("joined", 2, 2), ("opposite", 3), ("joined", 3, 4))
        self.right(EVEN, 0, given, (0, 0, ()), rows)
        for row in (("joined", 3, 6), ("joined", 6, 3)):
            self.wrong(EVEN, 0, given, (0, 0, ()), rows + (("given", 1), row, ("idle",)))
        self.right(EVEN, 0, given, (0, 0, ()), rows + (("given", 1), ("joined", 4, 6), ("idle",)))
        self.wrong(EVEN, 0, given, (0, 0, ()), rows + (("given", 1), ("opposite", 6), ("joined", 4, 7), ("idle",)))

    def test_numbers_of_rows(self):
        given = ((0, 1, ()), (0, 1, ((0, 1, 0),)))
        for count, right in ((LIMIT - 1, True), (LIMIT, False), (1 - LIMIT, True), (-LIMIT, False), (LIMIT ** 2, False)):
            paper = (("given", 0), ("power", 0, count), ("idle",))
            self.assertIs(shows_in_span(EVEN, 0, given, (0, 0, ()), paper), right)
            paper = (("given", 0), ("power", 0, count - (1 if count > 0 else -1)), ("joined", 0, 1), ("idle",))
            if count > 0:
                self.assertIs(shows_in_span(EVEN, 0, given, (0, 0, ()), paper), right)
        # The plain walk is looked at: 2 more turns ahead of a crossing in the web are 4 more behind it.
        web = (1, ((0, 0, 1, 10),))
        paper = (("given", 0), ("power", 0, LIMIT // 10), ("given", 1), ("joined", 1, 2), ("idle",))
        self.wrong(web, 0, ((0, 1, ()), E), (0, 0, ()), paper)
        paper = (("given", 0), ("power", 0, LIMIT // 10 - 1), ("given", 1), ("joined", 1, 2), ("idle",))
        self.right(web, 0, ((0, 1, ()), E), (0, 0, ()), paper)

    def test_one_row_bent(self):
        given = ((0, 4, ()), (0, 0, ((0, 1, 1),)))
        walk = joined(given[0], given[1], given[1], given[0], back(EVEN, given[1]))
        paper = span_paper(EVEN, 0, given, walk)
        self.right(EVEN, 0, given, walk, paper)
        rows = walks_of_paper(EVEN, 0, given, paper)
        for number, row in enumerate(paper):
            for other in (("idle",), ("given", 0), ("given", 1), ("opposite", number), ("joined", number, 0), ("power", 0, 3),
                          row[:-1], row + (0,), ("given", 5), None):
                bent = paper[:number] + (other,) + paper[number + 1:]
                try:
                    expected = walks_of_paper(EVEN, 0, given, bent)[-1] == rows[-1] and other not in (None, row[:-1], row + (0,))
                except (IndexError, TypeError):
                    expected = False
                self.assertIs(shows_in_span(EVEN, 0, given, walk, bent), expected, bent)

    def test_great_papers(self):
        web = (1, ((0, 0, 2, 1),))
        given = ((0, 3 * 2 ** 900, ()), E)
        paper = span_paper(web, 0, given, (0, 3, ()))
        self.right(web, 0, given, (0, 3, ()), paper)
        given = ((0, 10 ** 299 + 7, ((0, 1, 3), (0, 1, -10 ** 298))), (0, 6 ** 300, ((0, -1, 0),)), (0, 10 ** 299, ()))
        for walk in given + (joined(given[0], given[1]), joined(given[1], back(web, given[0]), given[1])):
            self.right(web, 0, given, walk, span_paper(web, 0, given, walk))

    def test_60_and_61_steps(self):
        given = ((0, 0, ((0, 1, 0),) * 30),)
        self.assertIsNone(span_paper(EVEN, 0, given, (0, 0, ((0, 1, 0),) * 29)))
        self.right(EVEN, 0, given, (0, 0, ((0, 1, 0),) * 30), span_paper(EVEN, 0, given, (0, 0, ((0, 1, 0),) * 30)))
        for steps in (31, 60):
            with self.assertRaises(TooMany) as caught:
                span_paper(EVEN, 0, given, (0, 0, ((0, 1, 0),) * steps))
            self.assertEqual(caught.exception.what, "steps")
        self.assertIs(in_span(EVEN, 0, given, (0, 0, ((0, 1, 0),) * 60)), True)
        paper = (("given", 0), ("joined", 0, 0))
        self.right(EVEN, 0, given, (0, 0, ((0, 1, 0),) * 60), paper)

    def test_other_kinds(self):
        given = ((0, 2, ()), E)
        self.wrong(EVEN, 0, given, (0, 0, ()), ("idle",))
        for value in OTHER_KINDS + (0, ("given", 0), "idle", ("idle", 0), ("Idle",), (("idle",), ())):
            self.wrong(EVEN, 0, given, (0, 0, ()), value)
            self.wrong(EVEN, 0, given, (0, 0, ()), (("idle",), value))
            if isinstance(value, bool) or value != 0:
                self.wrong(EVEN, 0, given, (0, 0, ()), (("idle",), ("given", value), ("idle",)))
            for row in (("opposite", value), ("joined", value, 0), ("joined", 0, value), ("power", value, 1), ("power", 0, value)):
                if value != 0 or isinstance(value, bool):
                    self.wrong(EVEN, 0, given, (0, 0, ()), (("idle",), row))

    def test_true_and_false_are_no_integers(self):
        given = (E, (0, 2, ()))
        rows = (("given", 1), ("given", 1))
        for row in (("given", True), ("opposite", True), ("joined", 0, True), ("joined", True, 0), ("power", True, 1),
                    ("power", 0, True), ("power", 0, False), ("opposite", False)):
            self.wrong(EVEN, 0, given, (0, 0, ()), rows + (row, ("idle",)))
        self.right(EVEN, 0, given, (0, 0, ()), rows + (("given", 1), ("opposite", 1), ("joined", 0, 1), ("power", 0, 1), ("idle",)))

    def test_spoilt_papers(self):
        given = ((0, 2, ()), E)
        paper = (("given", 1), ("given", 0), ("opposite", 0), ("power", 1, 3), ("joined", 3, 2))
        walk = (0, 6, ((0, -1, 0),))
        self.right(EVEN, 0, given, walk, paper)
        for path, value in spoilt(paper):
            if path == () and isinstance(value, tuple) and value[-1:] == paper[-1:]:
                continue
            self.wrong(EVEN, 0, given, walk, value)


class RaisesTest(unittest.TestCase):
    WEB = (2, ((0, 1, 2, 3), (0, 0, 1, 1)))

    def raised(self, error, given, more=()):
        """What all functions raise for given walks, and same_span also with others behind them."""
        caught_all = []
        walk = (0, 0, ())
        calls = [(in_span, (given, walk)), (span_index, (given,)), (free_rank, (given,)), (span_paper, (given, walk)),
                 (shows_in_span, (given, walk, None)), (same_span, (given, more)), (same_span, ((), given))]
        for function, arguments in calls:
            with self.assertRaises(error) as caught:
                function(self.WEB, 0, *arguments)
            caught_all.append(caught.exception)
        return caught_all

    def test_given_walks(self):
        open_walk, elsewhere = (0, 1, ((0, 1, 2),)), (1, 0, ((0, -1, 0),))
        long = (0, 0, ((1, 1, 0),) * 31)
        for error in self.raised(NotClosed, ((0, 1, ()), open_walk, elsewhere)):
            self.assertEqual(error.walk, open_walk)
        for error in self.raised(NotInOne, ((0, 1, ()), elsewhere, open_walk), (open_walk,)):
            self.assertEqual(error.room, 1)
        for error in self.raised(TooMany, (open_walk,) * 13):
            self.assertEqual(error.what, "walks")
        for error in self.raised(TooMany, (long, long), (open_walk,)):
            self.assertEqual(error.what, "steps")
        for error in self.raised(NotClosed, (long, long, open_walk)):
            self.assertEqual(error.walk, open_walk)

    def test_they_come_ahead_of_all_others(self):
        long = (0, 0, ((1, 1, 0),) * 60)
        with self.assertRaises(NotInOne):
            span_paper(self.WEB, 0, (long, (1, 1, ())), long)
        with self.assertRaises(TooMany) as caught:
            span_paper(self.WEB, 0, (long,) * 13, long)
        self.assertEqual(caught.exception.what, "walks")
        with self.assertRaises(NotClosed) as caught:
            same_span(self.WEB, 0, ((0, 0, ((0, 1, 0),)),), ((1, 1, ()),))
        self.assertEqual(caught.exception.walk, (0, 0, ((0, 1, 0),)))

    def test_12_given_walks(self):
        given = tuple((0, 2 ** i, ()) for i in range(12))
        self.assertIs(in_span(self.WEB, 0, given, (0, 1, ())), True)
        self.assertIsNone(span_index(self.WEB, 0, given))
