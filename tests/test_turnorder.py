import unittest

from tests.samples import BRIDGE, FULL, LONE, MIRROR, MOST, PAIR, PIECES, STILL, TRIANGLE, TURNING
from tubewords.errors import NotInOne, OutOfRange
from tubewords.turnorder import comes_before, primes_of, turn_parts

ONES = (2, ((0, 1, 1, -1),))
SPLIT = (4, ((0, 1, 2, 3), (2, 2, 5, 7), (1, 1, -9, 1)))


def parts_by_words(primes, turns):
    rest = abs(turns)
    exponents = []
    for prime in primes:
        exponents.append(max(n for n in range(70) if rest % prime ** n == 0))
        rest //= prime ** exponents[-1]
    return (1 if turns > 0 else -1, rest, tuple(exponents))


def before_by_words(primes, first, second):
    if first == second:
        return False
    _, rest, exponents = parts_by_words(primes, first[1])
    _, other_rest, others = parts_by_words(primes, second[1])
    if rest != other_rest:
        return rest < other_rest
    if sum(exponents) != sum(others):
        return sum(exponents) < sum(others)
    if exponents != others:
        return exponents > others
    if first[0] != second[0]:
        return first[0] < second[0]
    return first[1] > 0


class PrimesTest(unittest.TestCase):
    def test_primes(self):
        self.assertEqual(primes_of(TURNING, 0), (2, 3))
        self.assertEqual(primes_of(MIRROR, 0), (2, 3))
        self.assertEqual(primes_of((1, ((0, 0, 30, -49),)), 0), (2, 3, 5, 7))
        self.assertEqual(primes_of((1, ((0, 0, 1000, -997),)), 0), (2, 5, 997))
        self.assertEqual(primes_of((1, ((0, 0, 1, 961),)), 0), (31,))
        self.assertEqual(primes_of((1, ((0, 0, 994, 1),)), 0), (2, 7, 71))
        self.assertEqual(primes_of((1, ((0, 0, 6, 7), (0, 0, 4, 10), (0, 0, 1, 3))), 0), (2, 3, 5, 7))

    def test_rooms_without_a_prime(self):
        self.assertEqual(primes_of(STILL, 0), ())
        self.assertEqual(primes_of(LONE, 3), ())
        self.assertEqual(primes_of(ONES, 1), ())
        self.assertEqual(primes_of(PIECES, 2), ())

    def test_the_piece_of_the_room_counts(self):
        self.assertEqual([primes_of(SPLIT, room) for room in range(4)], [(2, 3), (2, 3), (5, 7), ()])
        self.assertEqual([primes_of(PIECES, room) for room in range(5)], [(2, 3), (2, 5), (), (2, 5), (3,)])
        for room in range(3):
            self.assertEqual(primes_of(TRIANGLE, room), (2, 3, 5))
        for room in range(5):
            self.assertEqual(primes_of(FULL, room), (2, 3, 5))

    def test_all_ends(self):
        primes = [p for p in range(2, 1001) if all(p % q for q in range(2, p))]
        for end in range(2, 1001):
            told = primes_of((2, ((0, 1, 1, -end),)), 0)
            expected = tuple(p for p in primes if end % p == 0)
            self.assertEqual(told, expected, end)
            self.assertEqual(primes_of((2, ((0, 1, end, 1),)), 1), expected)


class PartsTest(unittest.TestCase):
    def test_parts(self):
        self.assertEqual(turn_parts(TURNING, 0, 1), (1, 1, (0, 0)))
        self.assertEqual(turn_parts(TURNING, 0, -1), (-1, 1, (0, 0)))
        self.assertEqual(turn_parts(TURNING, 0, 360), (1, 5, (3, 2)))
        self.assertEqual(turn_parts(TURNING, 0, -35), (-1, 35, (0, 0)))
        self.assertEqual(turn_parts(SPLIT, 2, -350), (-1, 2, (2, 1)))
        self.assertEqual(turn_parts(SPLIT, 1, -350), (-1, 175, (1, 0)))
        self.assertEqual(turn_parts(SPLIT, 3, -350), (-1, 350, ()))
        self.assertEqual(turn_parts(ONES, 1, 12), (1, 12, ()))

    def test_many_numbers(self):
        for web in (TURNING, TRIANGLE, PAIR):
            for turns in list(range(-60, 0)) + list(range(1, 61)) + [2 ** 50, -3 ** 40 * 7]:
                self.assertEqual(turn_parts(web, 0, turns), parts_by_words(primes_of(web, 0), turns))

    def test_great_numbers(self):
        self.assertEqual(turn_parts(TURNING, 0, -2 ** 900 * 3 ** 500 * 7), (-1, 7, (900, 500)))
        self.assertEqual(turn_parts(STILL, 0, MOST ** 2), (1, MOST ** 2, ()))

    def test_0(self):
        for web in (TURNING, STILL, LONE):
            with self.assertRaises(OutOfRange) as caught:
                turn_parts(web, 0, 0)
            self.assertEqual(caught.exception.value, 0)


class OrderTest(unittest.TestCase):
    def test_the_lesser_rest(self):
        self.assertIs(comes_before(TURNING, (0, 72), (0, 5)), True)
        self.assertIs(comes_before(TURNING, (0, 5), (0, 72)), False)
        self.assertIs(comes_before(TURNING, (0, -5), (0, 7)), True)

    def test_the_lesser_weight(self):
        self.assertIs(comes_before(TURNING, (0, 9), (0, 8)), True)
        self.assertIs(comes_before(TURNING, (0, 8), (0, 9)), False)
        self.assertIs(comes_before(BRIDGE, (1, -3), (0, 4)), True)

    def test_the_greater_exponents(self):
        self.assertIs(comes_before(TURNING, (0, 2), (0, 3)), True)
        self.assertIs(comes_before(TURNING, (0, 3), (0, 2)), False)
        self.assertIs(comes_before(TURNING, (0, 12), (0, 18)), True)
        self.assertIs(comes_before(BRIDGE, (1, -2), (0, 3)), True)

    def test_the_lesser_room(self):
        self.assertIs(comes_before(BRIDGE, (0, -2), (1, 2)), True)
        self.assertIs(comes_before(BRIDGE, (1, 2), (0, -2)), False)
        self.assertIs(comes_before(ONES, (0, -7), (1, 7)), True)

    def test_the_number_above_0(self):
        self.assertIs(comes_before(BRIDGE, (0, 2), (0, -2)), True)
        self.assertIs(comes_before(BRIDGE, (0, -2), (0, 2)), False)
        self.assertIs(comes_before(STILL, (0, 5), (0, -5)), True)

    def test_the_same_turn(self):
        for turn in ((0, 2), (1, -3), (0, 35)):
            self.assertIs(comes_before(BRIDGE, turn, turn), False)

    def test_many_turns(self):
        for web, rooms in ((BRIDGE, (0, 1)), (TRIANGLE, (0, 2)), (ONES, (0, 1)), (PIECES, (1, 3))):
            primes = primes_of(web, rooms[0])
            turns = [(room, k) for room in rooms for k in list(range(-12, 0)) + list(range(1, 13)) + [30, -45, 64]]
            for first in turns:
                for second in turns:
                    told = comes_before(web, first, second)
                    self.assertIs(told, before_by_words(primes, first, second), (web, first, second))

    def test_0(self):
        for first, second in (((0, 0), (0, 1)), ((0, 1), (0, 0)), ((0, 0), (1, 0))):
            with self.assertRaises(OutOfRange) as caught:
                comes_before(BRIDGE, first, second)
            self.assertEqual(caught.exception.value, 0)

    def test_another_piece(self):
        for first, second, room in (((0, 1), (2, 1), 2), ((2, 1), (1, 5), 1), ((3, -1), (0, 5), 0)):
            with self.assertRaises(NotInOne) as caught:
                comes_before(SPLIT, first, second)
            self.assertEqual(caught.exception.room, room)
        self.assertIs(comes_before(SPLIT, (0, 1), (1, 1)), True)

    def test_0_goes_ahead_of_another_piece(self):
        for first, second in (((0, 0), (2, 1)), ((0, 1), (2, 0)), ((0, 0), (2, 0))):
            with self.assertRaises(OutOfRange):
                comes_before(SPLIT, first, second)
