import random
import unittest
from fractions import Fraction
from math import gcd

from tests.samples import ALL_WEBS, BRIDGE, DOUBLING, EVEN, FULL, KLEIN, STILL, TURNING, back, joined, last_room, plain_by_words, some_walk
from tests.test_pictures import picture_by_words
from tubewords.errors import OutOfRange
from tubewords.pictures import picture_of
from tubewords.rests import is_modulus, rest_map, rest_table


def led_by_words(web, m, shifts, walk, x):
    """Where a walk leads a rest, by trying all rests for what undoes a crossing."""
    x = (x + walk[1]) % m
    for t, s, k in walk[2]:
        _, _, p, q = web[1][t]
        # Forwards p times (y - shift) is q times x.
        fits = [y for y in range(m) if (p * (y - shifts[t]) - q * x if s == 1 else p * (x - shifts[t]) - q * y) % m == 0]
        x = (fits[0] + k) % m
        assert len(fits) == 1
    return x


def moduli_of(web):
    return [m for m in range(2, 1001) if all(gcd(m, end) == 1 for tie in web[1] for end in tie[2:])]


def some_shifts(chance, web):
    return tuple([chance.choice((0, chance.randint(-9, 9), chance.randint(1 - 10 ** 30, 10 ** 30 - 1))) for _ in web[1]])


class ModulusTest(unittest.TestCase):
    def test_moduli(self):
        for web, number, expected in (
                (STILL, 2, True), (STILL, 1, False), (STILL, 0, False), (STILL, -1, False), (STILL, -2, False),
                (STILL, 1000, True), (STILL, 1001, False), (STILL, 999, True), (STILL, 10 ** 40, False),
                (TURNING, 2, False), (TURNING, 3, False), (TURNING, 5, True), (TURNING, 25, True), (TURNING, 10, False),
                (TURNING, 995, True), (TURNING, 999, False), (TURNING, 1000, False), (TURNING, 1001, False),
                (KLEIN, 2, True), (KLEIN, 1000, True), (DOUBLING, 2, False), (DOUBLING, 3, True)):
            self.assertIs(is_modulus(web, number), expected, (web, number))

    def test_each_end_of_each_tie(self):
        web = (3, ((0, 0, 7, 1), (2, 2, 1, -11)))
        self.assertEqual([m for m in range(2, 30) if not is_modulus(web, m)], [7, 11, 14, 21, 22, 28])
        for web in ALL_WEBS:
            self.assertEqual([m for m in range(-3, 1005) if is_modulus(web, m)], moduli_of(web))


class RestMapTest(unittest.TestCase):
    def test_maps(self):
        self.assertEqual(rest_map(STILL, 2, (), (0, 3, ())), (1, 1))
        self.assertEqual(rest_map(STILL, 1000, (), (0, -1, ())), (1, 999))
        self.assertEqual(rest_map(DOUBLING, 5, (4,), (0, 3, ((0, 1, 1),))), (2, 1))
        self.assertEqual(rest_map(DOUBLING, 5, (4,), (0, 3, ((0, -1, 1),))), (3, 3))
        self.assertEqual(rest_map(TURNING, 7, (0,), (0, 0, ((0, 1, 0),))), (5, 0))
        self.assertEqual(rest_map(TURNING, 7, (-1,), (0, 0, ((0, 1, 0),))), (5, 6))
        self.assertEqual(rest_map(KLEIN, 2, (1,), (0, 0, ((0, 1, 0),))), (1, 1))
        self.assertEqual(rest_table(DOUBLING, 5, (4,), (0, 3, ((0, 1, 1),))), (1, 3, 0, 2, 4))
        self.assertEqual(rest_table(KLEIN, 3, (1,), (0, 0, ((0, 1, 0),))), (1, 0, 2))
        self.assertEqual(rest_table(STILL, 2, (), (0, 3, ())), (1, 0))

    def test_by_words(self):
        chance = random.Random(2701)
        for web in ALL_WEBS * 5:
            m = chance.choice([m for m in moduli_of(web) if m < 60] or moduli_of(web)[:1])
            shifts = some_shifts(chance, web)
            walk = some_walk(chance, web, chance.randint(0, 7), most=chance.choice((9, 10 ** 299)))
            table = rest_table(web, m, shifts, walk)
            self.assertEqual(table, tuple([led_by_words(web, m, shifts, walk, x) for x in range(m)]))
            self.assertEqual(sorted(table), list(range(m)))
            s, c = rest_map(web, m, shifts, walk)
            self.assertTrue(0 <= s < m and 0 <= c < m)
            self.assertEqual(table, tuple([(s * x + c) % m for x in range(m)]))

    def test_pictures_tell_them(self):
        chance = random.Random(2702)
        for web in ALL_WEBS * 5:
            m = chance.choice(moduli_of(web))
            shifts = some_shifts(chance, web)
            walk = some_walk(chance, web, chance.randint(0, 9))
            expected = [n * pow(d, -1, m) % m for n, d in picture_by_words(web, [(d, 1) for d in shifts], walk)]
            self.assertEqual(list(rest_map(web, m, shifts, walk)), expected)

    def test_equal_walks_forwards_and_backwards(self):
        chance = random.Random(2703)
        for web in ALL_WEBS * 4:
            m = chance.choice(moduli_of(web))
            shifts = some_shifts(chance, web)
            walk = some_walk(chance, web, chance.randint(0, 9))
            told = rest_map(web, m, shifts, walk)
            self.assertEqual(rest_map(web, m, shifts, plain_by_words(web, walk)), told)
            there = rest_table(web, m, shifts, walk)
            home = rest_table(web, m, shifts, back(web, walk))
            self.assertEqual([home[there[x]] for x in range(m)], list(range(m)))
            other = some_walk(chance, web, 4, last_room(web, walk))
            behind = rest_table(web, m, shifts, other)
            self.assertEqual(rest_table(web, m, shifts, joined(walk, other)), tuple([behind[x] for x in there]))

    def test_where_they_are_the_same(self):
        chance = random.Random(2704)
        counts = {True: 0, False: 0}
        for web in ALL_WEBS * 4:
            shifts = tuple([chance.randint(-3, 3) for _ in web[1]])
            walk = some_walk(chance, web, chance.randint(0, 3), most=3)
            other = some_walk(chance, web, chance.randint(0, 3), walk[0], most=3)
            fractions = [(d, 1) for d in shifts]
            first, second = picture_of(web, fractions, walk), picture_of(web, fractions, other)
            apart = [Fraction(*a) - Fraction(*b) for a, b in zip(first, second)]
            for m in chance.sample(moduli_of(web), 3) + moduli_of(web)[:4]:
                expected = all(value.numerator % m == 0 for value in apart)
                counts[expected] += 1
                self.assertIs(rest_map(web, m, shifts, walk) == rest_map(web, m, shifts, other), expected)
        self.assertGreater(min(counts.values()), 30)

    def test_great_shifts(self):
        great = 10 ** 30 - 1
        for shift in (great, -great):
            self.assertEqual(rest_map(EVEN, 997, (shift,), (0, 0, ((0, 1, 0),))), (1, shift % 997))
            self.assertEqual(rest_map(EVEN, 997, (shift,), (0, 0, ((0, -1, 0),))), (1, -shift % 997))

    def test_out_of_range(self):
        walk = (0, 0, ())
        for function in (rest_map, rest_table):
            for web, number in ((STILL, 1), (STILL, 0), (STILL, -5), (STILL, 1001), (TURNING, 2), (TURNING, 9), (TURNING, 15),
                                (TURNING, 1001), (BRIDGE, 6), (FULL, 7 * 5)):
                with self.assertRaises(OutOfRange) as caught:
                    function(web, number, (0,) * len(web[1]), walk)
                self.assertEqual(caught.exception.value, number)
