import random
import unittest
from itertools import product

from tests.samples import ALL_WEBS, BRIDGE, EVEN, KLEIN, LONE, STILL, TURNING
from tests.test_counts import EXAMPLE, webs_in
from tubewords.counts import exchange_rows, rest_rows
from tubewords.divisors import divisors_at, free_number
from tubewords.webs import pieces_of


def rank_mod(rows, prime):
    """The rank of rows of integers mod a prime."""
    rows = [[number % prime for number in row] for row in rows]
    rank = 0
    for at in range(len(rows[0]) if rows else 0):
        pivot = next((row for row in rows[rank:] if row[at]), None)
        if pivot is None:
            continue
        rows.remove(pivot)
        rows.insert(rank, pivot)
        undo = pow(pivot[at], -1, prime)
        for i in range(len(rows)):
            if i != rank:
                many = rows[i][at] * undo
                rows[i] = [(a - many * b) % prime for a, b in zip(rows[i], pivot)]
        rank += 1
    return rank


def kills(rows, size, m):
    """How many tuples of integers mod m, one for each room, give 0 mod m with each row."""
    return sum(all(sum(a * b for a, b in zip(numbers, row)) % m == 0 for row in rows)
               for numbers in product(range(m), repeat=size))


class DivisorsTest(unittest.TestCase):
    def test_some(self):
        for web, room, free, divisors in (
                (STILL, 0, 1, ()), (LONE, 3, 1, ()), (TURNING, 0, 1, ()), (EVEN, 0, 2, ()), (KLEIN, 0, 1, (2,)),
                (BRIDGE, 1, 1, ()), (EXAMPLE, 0, 1, (2, 2)), (EXAMPLE, 1, 1, (2, 2)),
                ((1, ((0, 0, 1, 7), (0, 0, 1, 10))), 0, 2, (3,)),
                ((1, ((0, 0, 5, 5), (0, 0, -3, -3))), 0, 3, ()),
                ((2, ((0, 0, 1, 3), (1, 1, 1, 5), (0, 1, 1, 1))), 0, 2, (2,)),
                ((2, ((0, 0, 1, 3), (1, 1, 1, 4), (0, 1, 6, 6))), 0, 2, (6,)),
                ((2, ((0, 0, 1, 3), (1, 1, 1, 5), (0, 1, 4, 4))), 0, 2, (2, 4)),
                ((3, ((0, 0, 1, 5), (1, 1, 1, 7), (2, 2, 1, 11), (0, 1, 12, 12), (1, 2, 60, 60))), 1, 3, (2, 2, 60))):
            self.assertEqual(free_number(web, room), free, web)
            self.assertEqual(divisors_at(web, room), divisors, web)

    def test_rooms_of_several_pieces(self):
        web = (5, ((0, 0, 1, 7), (1, 3, 4, 6), (3, 1, 2, 2), (4, 4, 2, 2)))
        told = [(free_number(web, room), divisors_at(web, room)) for room in range(5)]
        self.assertEqual(told, [(1, (6,)), (1, (2, 2)), (1, ()), (1, (2, 2)), (2, ())])

    def test_free_numbers(self):
        for web in webs_in(2501, 300):
            for piece in pieces_of(web):
                ties = [tie for tie in web[1] if tie[0] in piece]
                leads = [next(i for i, number in enumerate(row) if number) for row in rest_rows(web)]
                expected = len(ties) + 1 - sum(lead in piece for lead in leads)
                for room in piece:
                    self.assertEqual(free_number(web, room), expected)

    def test_each_divides_the_next_one(self):
        seen = set()
        for web in webs_in(2502, 400):
            for piece in pieces_of(web):
                told = divisors_at(web, piece[0])
                seen.add(len(told))
                self.assertTrue(all(number >= 2 for number in told))
                self.assertTrue(all(following % number == 0 for number, following in zip(told, told[1:])))
                self.assertTrue(all(divisors_at(web, room) == told for room in piece))
        self.assertGreaterEqual(max(seen), 3)

    def test_what_they_stand_for(self):
        # The maps to the rests mod m are as many as the free number and the divisors tell, for each m.
        chance = random.Random(2503)
        for web in list(ALL_WEBS) + chance.sample(webs_in(2504, 300), 120):
            for piece in pieces_of(web):
                ties = [i for i, tie in enumerate(web[1]) if tie[0] in piece]
                rows = [[exchange_rows(web)[i][v] for v in piece] for i in ties]
                free, divisors = free_number(web, piece[0]), divisors_at(web, piece[0])
                for m in (2, 3, 4, 6) if len(piece) < 5 else (2, 3):
                    expected = kills(rows, len(piece), m) * m ** (len(ties) - len(piece) + 1)
                    told = m ** free
                    for divisor in divisors:
                        told *= next(g for g in range(m, 0, -1) if m % g == 0 and divisor % g == 0)
                    self.assertEqual(told, expected)

    def test_ranks_mod_primes(self):
        for web in webs_in(2505, 300):
            for piece in pieces_of(web):
                ties = [i for i, tie in enumerate(web[1]) if tie[0] in piece]
                rows = [[exchange_rows(web)[i][v] for v in piece] for i in ties]
                free, divisors = free_number(web, piece[0]), divisors_at(web, piece[0])
                for prime in (2, 3, 5, 7, 101, 997):
                    expected = len(ties) + 1 - rank_mod(rows, prime)
                    self.assertEqual(free + sum(divisor % prime == 0 for divisor in divisors), expected)
