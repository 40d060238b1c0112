import random
import unittest

from tests.samples import (
    ALL_WEBS, BRIDGE, EVEN, KLEIN, LONE, PIECES, STILL, TRIANGLE, TURNING, back, joined, last_room, plain_by_words,
    some_closed, some_walk)
from tubewords.counts import (
    exchange_multiples, exchange_rows, have_like_counts, rest_of, rest_rows, tie_counts, turn_counts)
from tubewords.errors import NotInOne

EXAMPLE = (2, ((0, 1, 4, 6), (0, 1, 2, 2)))


def times(count, row):
    return [count * number for number in row]


def summed(rows, size):
    return tuple(map(sum, zip([0] * size, *rows)))


def some_rows_web(chance):
    """A web with many ties, some of them with equal ends, some from a room to itself."""
    rooms = chance.randint(1, 5)
    most = chance.choice((2, 12, 1000))
    ties = []
    for _ in range(chance.randint(0, 7)):
        p, q = [chance.choice((1, -1)) * chance.randint(1, most) for _ in "pq"]
        v, w = [chance.randrange(rooms) for _ in "vw"]
        ties.append((v, w, p, p if chance.random() < 0.3 else q))
    return (rooms, tuple(ties))


def webs_in(seed, many):
    chance = random.Random(seed)
    return list(ALL_WEBS) + [EXAMPLE] + [some_rows_web(chance) for _ in range(many)]


def hermite(rows, size):
    """Rest rows found by adding the rows one by one to those found, which are kept in order by their leads."""
    found = {}
    for row in rows:
        row = list(row)
        for at in range(size):
            if row[at] and at not in found:
                found[at] = row if row[at] > 0 else times(-1, row)
                break
            while row[at]:
                other = found[at]
                many = other[at] // row[at]
                row, found[at] = [a - many * b for a, b in zip(other, row)], row
            if at in found and found[at][at] < 0:
                found[at] = times(-1, found[at])
    result = [found[at] for at in sorted(found)]
    leads = sorted(found)
    for i, at in enumerate(leads):
        for j in range(i):
            many = result[j][at] // result[i][at]
            result[j] = [a - many * b for a, b in zip(result[j], result[i])]
    return tuple(map(tuple, result))


class CountsTest(unittest.TestCase):
    def test_turn_counts(self):
        web = (3, ((0, 1, 2, 3), (1, 1, 4, 5)))
        walk = (0, 7, ((0, 1, 10), (1, 1, 100), (1, -1, -1000), (0, -1, 20)))
        self.assertEqual(turn_counts(web, walk), (27, -890, 0))
        self.assertEqual(turn_counts(web, (2, -4, ())), (0, 0, -4))
        self.assertEqual(turn_counts(STILL, (0, 0, ())), (0,))

    def test_tie_counts(self):
        web = (3, ((0, 1, 2, 3), (1, 1, 4, 5), (0, 2, 1, 1)))
        walk = (0, 7, ((0, 1, 10), (1, -1, 100), (1, -1, -1000), (1, 1, 0), (0, -1, 20)))
        self.assertEqual(tie_counts(web, walk), (0, -1, 0))
        self.assertEqual(tie_counts(web, walk[:2] + (walk[2][:3],)), (1, -2, 0))
        self.assertEqual(tie_counts(web, (0, 5, ())), (0, 0, 0))
        self.assertEqual(tie_counts(STILL, (0, 5, ())), ())

    def test_walks_are_taken_as_they_are_written(self):
        # Other spellings of (0, 6, ()) have other turn counts, and all tie counts 0.
        for walk, turns in (((0, 6, ()), 6), ((0, 2, ((0, 1, 0), (0, -1, 4))), 6), ((0, 4, ((0, 1, 3), (0, -1, 0))), 7),
                            ((0, 0, ((0, 1, 9), (0, -1, 0))), 9), ((0, 6, ((0, -1, 0), (0, 1, 0))), 6)):
            self.assertEqual(plain_by_words(TURNING, walk), (0, 6, ()))
            self.assertEqual(turn_counts(TURNING, walk), (turns,))
            self.assertEqual(tie_counts(TURNING, walk), (0,))

    def test_exchange_rows(self):
        self.assertEqual(exchange_rows(EXAMPLE), ((4, -6), (2, -2)))
        self.assertEqual(exchange_rows(STILL), ())
        self.assertEqual(exchange_rows(LONE), ())
        self.assertEqual(exchange_rows(EVEN), ((0,),))
        self.assertEqual(exchange_rows(TURNING), ((-1,),))
        self.assertEqual(exchange_rows(KLEIN), ((2,),))
        self.assertEqual(exchange_rows((3, ((2, 1, 5, -7), (1, 1, -3, 4), (0, 2, 1, 1)))),
                         ((0, 7, 5), (0, -7, 0), (1, 0, -1)))

    def test_joined_walks_add_up(self):
        chance = random.Random(2401)
        for web in ALL_WEBS * 3:
            walk = some_walk(chance, web, 5)
            other = some_walk(chance, web, 5, last_room(web, walk))
            for function in (turn_counts, tie_counts):
                added = tuple(map(sum, zip(function(web, walk), function(web, other))))
                self.assertEqual(function(web, joined(walk, other)), added)
                self.assertEqual(function(web, back(web, walk)), tuple(times(-1, function(web, walk))))


class RestRowsTest(unittest.TestCase):
    def test_the_example_of_the_document(self):
        self.assertEqual(rest_rows(EXAMPLE), ((2, 0), (0, 2)))
        self.assertEqual(rest_of(EXAMPLE, (5, 3)), (1, 1))

    def test_rows(self):
        # No tie, equal ends in one room, several pieces.
        self.assertEqual(rest_rows(STILL), ())
        self.assertEqual(rest_rows(LONE), ())
        self.assertEqual(rest_rows(EVEN), ())
        self.assertEqual(rest_rows(TURNING), ((1,),))
        self.assertEqual(rest_rows((1, ((0, 0, 2, 8), (0, 0, 5, 5), (0, 0, 1, 10)))), ((3,),))
        self.assertEqual(rest_rows((2, ((0, 1, -2, 3),))), ((2, 3),))
        self.assertEqual(rest_rows((4, ((1, 3, 2, 3), (2, 2, 1, -4), (0, 0, 7, 7)))), ((0, 2, 0, -3), (0, 0, 5, 0)))
        self.assertEqual(rest_rows((3, ((0, 1, 2, 5), (1, 1, 9, 2), (1, 2, 1, 4)))), ((2, 0, 8), (0, 1, 24), (0, 0, 28)))

    def test_what_they_must_be(self):
        for web in webs_in(2402, 400):
            rows = rest_rows(web)
            leads = [next(i for i, number in enumerate(row) if number) for row in rows]
            self.assertEqual(leads, sorted(set(leads)))
            for i, (row, lead) in enumerate(zip(rows, leads)):
                self.assertEqual(len(row), web[0])
                self.assertGreater(row[lead], 0)
                for earlier in rows[:i]:
                    self.assertIn(earlier[lead], range(row[lead]))
            self.assertEqual(rows, hermite(exchange_rows(web), web[0]))

    def test_rests(self):
        chance = random.Random(2403)
        for web in webs_in(2404, 300):
            rows = rest_rows(web)
            leads = [next(i for i, number in enumerate(row) if number) for row in rows]
            for most in (5, 2000, 10 ** 40):
                numbers = tuple([chance.randint(-most, most) for _ in range(web[0])])
                rest = rest_of(web, numbers)
                self.assertEqual(len(rest), web[0])
                for row, lead in zip(rows, leads):
                    self.assertIn(rest[lead], range(row[lead]))
                # The difference is a sum of multiples of the rows: with it no row is added to them.
                difference = tuple([a - b for a, b in zip(numbers, rest)])
                self.assertEqual(hermite(rows + (difference,), web[0]), rows)
                added = summed([numbers] + [times(chance.randint(-9, 9), row) for row in exchange_rows(web)], web[0])
                self.assertEqual(rest_of(web, added), rest)

    def test_rests_of_integers_below_0(self):
        self.assertEqual(rest_of(EXAMPLE, (-1, -3)), (1, 1))
        self.assertEqual(rest_of(EXAMPLE, (-2, -4)), (0, 0))
        self.assertEqual(rest_of(KLEIN, (-5,)), (1,))
        self.assertEqual(rest_of(EVEN, (-5,)), (-5,))
        self.assertEqual(rest_of(LONE, (-1, 2, -3, 4)), (-1, 2, -3, 4))
        self.assertEqual(rest_of((2, ((0, 1, 2, 3),)), (-1, 0)), (1, -3))
        self.assertEqual(rest_of((2, ((0, 1, -2, 3),)), (-1, 0)), (1, 3))


class LikeCountsTest(unittest.TestCase):
    def test_like_and_unlike(self):
        for web, walk, other, expected in (
                (TURNING, (0, 5, ()), (0, -3, ()), True),
                (EVEN, (0, 5, ()), (0, 5, ()), True),
                (EVEN, (0, 5, ()), (0, 6, ()), False),
                (KLEIN, (0, 5, ()), (0, 7, ()), True),
                (KLEIN, (0, 5, ()), (0, 6, ()), False),
                (TURNING, (0, 0, ((0, 1, 0),)), (0, 0, ()), False),
                (TURNING, (0, 0, ((0, 1, 0),)), (0, 0, ((0, -1, 0),)), False),
                (TURNING, (0, 0, ((0, 1, 0), (0, -1, 0), (0, 1, 5))), (0, 1, ((0, 1, 0),)), True),
                (BRIDGE, (0, 2, ((0, 1, 0),)), (0, 0, ((0, 1, 3),)), True),
                (BRIDGE, (0, 1, ((0, 1, 0),)), (0, 0, ((0, 1, 3),)), False),
                (EXAMPLE, (0, 2, ()), (0, 0, ()), True),
                (EXAMPLE, (0, 1, ()), (0, 0, ()), False),
                (EXAMPLE, (0, 0, ((0, 1, 0),)), (0, 0, ((1, 1, 0),)), False)):
            self.assertIs(have_like_counts(web, walk, other), expected, (web, walk, other))
            self.assertIs(have_like_counts(web, other, walk), expected)
            self.assertIs(exchange_multiples(web, walk, other) is not None, expected)

    def test_ties_of_other_pieces(self):
        # The multiples are those of all ties, but turns in one piece are never made up by ties of another one.
        web = (2, ((0, 0, 1, 3), (1, 1, 1, 2)))
        self.assertIs(have_like_counts(web, (0, 1, ()), (0, 0, ())), False)
        self.assertIs(have_like_counts(web, (0, 2, ()), (0, 0, ())), True)
        self.assertEqual(exchange_multiples(web, (0, 2, ()), (0, 0, ()))[0], -1)

    def test_equal_walks(self):
        chance = random.Random(2405)
        for web in ALL_WEBS * 5:
            walk = some_walk(chance, web, chance.randint(0, 8))
            other = some_walk(chance, web, 3, walk[0])
            spelled = joined(other, back(web, other), walk)
            for equal in (plain_by_words(web, walk), plain_by_words(web, spelled), spelled):
                self.assertIs(have_like_counts(web, walk, equal), True)
                self.assertIs(have_like_counts(web, equal, walk), True)

    def test_closed_walks_in_another_order(self):
        chance = random.Random(2406)
        for web in ALL_WEBS * 3:
            parts = [some_closed(chance, web, 4)]
            parts += [some_closed(chance, web, 4, parts[0][0]) for _ in range(2)]
            mixed = joined(parts[2], parts[0], parts[1])
            self.assertIs(have_like_counts(web, joined(*parts), mixed), True)
            self.assertIs(have_like_counts(web, joined(*parts), plain_by_words(web, mixed)), True)

    def test_by_the_rests(self):
        chance = random.Random(2407)
        counts = {True: 0, False: 0}
        for web in webs_in(2408, 300) * 2:
            walk = some_walk(chance, web, chance.randint(0, 3), most=3)
            other = some_walk(chance, web, chance.randint(0, 3), walk[0], most=3)
            if chance.random() < 0.6:
                other = joined(plain_by_words(web, walk), (last_room(web, walk), chance.randint(0, 2), ()))
            rests = [rest_of(web, turn_counts(web, one)) for one in (walk, other)]
            expected = tie_counts(web, walk) == tie_counts(web, other) and rests[0] == rests[1]
            counts[expected] += 1
            self.assertIs(have_like_counts(web, walk, other), expected)
            if expected:
                self.assertEqual(last_room(web, walk), last_room(web, other))
            else:
                self.assertIsNone(exchange_multiples(web, walk, other))
        self.assertGreater(min(counts.values()), 150)

    def test_multiples_come_to_the_difference(self):
        chance = random.Random(2409)
        for web in webs_in(2410, 300):
            walk = some_walk(chance, web, chance.randint(0, 6))
            rows = exchange_rows(web)
            for other in (plain_by_words(web, walk), walk,
                          joined(walk, back(web, walk), walk, (last_room(web, walk), 0, ()))):
                many = exchange_multiples(web, walk, other)
                self.assertEqual(len(many), len(web[1]))
                difference = [a - b for a, b in zip(turn_counts(web, walk), turn_counts(web, other))]
                self.assertEqual(summed([times(count, row) for count, row in zip(many, rows)], web[0]), tuple(difference))

    def test_great_turns(self):
        great = 10 ** 299
        self.assertIs(have_like_counts(KLEIN, (0, great, ()), (0, -great, ())), True)
        self.assertEqual(exchange_multiples(KLEIN, (0, great, ()), (0, -great, ())), (great,))
        self.assertIs(have_like_counts(KLEIN, (0, great + 1, ()), (0, -great, ())), False)

    def test_not_in_one(self):
        for function in (have_like_counts, exchange_multiples):
            for web, walk, other in ((BRIDGE, (0, 0, ()), (1, 0, ())), (BRIDGE, (1, 2, ((0, -1, 3),)), (0, 2, ((0, 1, 3),))),
                                     (PIECES, (2, 0, ()), (4, 0, ())), (TRIANGLE, (2, 0, ((2, 1, 0),)), (1, 0, ()))):
                with self.assertRaises(NotInOne) as caught:
                    function(web, walk, other)
                self.assertEqual(caught.exception.room, other[0])
        self.assertIs(have_like_counts(BRIDGE, (0, 0, ((0, 1, 0),)), (0, 0, ())), False)
