import random
import unittest

from tests.samples import (
    ALL_WEBS, BRIDGE, DOUBLING, EVEN, KLEIN, LONE, MIRROR, PIECES, STILL, TURNING, WEBS, ends, ways)
from tubewords.errors import TooMany
from tubewords.turnclasses import turn_class
from tubewords.turnorder import comes_before

# The exponents of the primes are exchanged for one another, so that all with the same sum make one class.
FOUR = (1, ((0, 0, 2, 3), (0, 0, 3, 5), (0, 0, 5, 7)))
THREE = (1, ((0, 0, 2, 3), (0, 0, 3, 5)))


def searched(web, turn, most=500):
    """The search of [29], told once more: the members, or the pair that ends it, or None if there are too many."""
    met = [turn]
    for v, k in met:
        for t, s in ways(web, v):
            _, w, ahead, behind = ends(web, t, s)
            if k % ahead == 0:
                new = (w, k // ahead * behind)
                if new in met:
                    continue
                for old in met:
                    if old[0] == new[0] and abs(old[1]) != abs(new[1]):
                        if old[1] % new[1] == 0 or new[1] % old[1] == 0:
                            return tuple(sorted((old, new), key=lambda x: abs(x[1])))
                met.append(new)
                if len(met) > most:
                    return None
    return met


class FiniteTest(unittest.TestCase):
    def test_just_one_member(self):
        self.assertEqual(turn_class(STILL, 0, 5), ("finite", ((0, 5),)))
        self.assertEqual(turn_class(LONE, 2, -7), ("finite", ((2, -7),)))
        self.assertEqual(turn_class(TURNING, 0, 5), ("finite", ((0, 5),)))
        self.assertEqual(turn_class(TURNING, 0, -35), ("finite", ((0, -35),)))
        self.assertEqual(turn_class(EVEN, 0, 2), ("finite", ((0, 2),)))

    def test_members_stand_in_their_order(self):
        self.assertEqual(turn_class(TURNING, 0, 9), ("finite", ((0, 4), (0, 6), (0, 9))))
        self.assertEqual(turn_class(TURNING, 0, -18), ("finite", ((0, -8), (0, -12), (0, -18), (0, -27))))
        self.assertEqual(turn_class(KLEIN, 0, -3), ("finite", ((0, 3), (0, -3))))
        self.assertEqual(turn_class(BRIDGE, 1, 9), ("finite", ((0, 6), (1, 9))))
        # Over the sign: 2 turns become -3, those 2 again only backwards.
        self.assertEqual(turn_class(MIRROR, 0, 4), ("finite", ((0, 4), (0, -6), (0, 9))))

    def test_lesser_weight_goes_first(self):
        web = (1, ((0, 0, 4, 3),))
        self.assertEqual(turn_class(web, 0, 16), ("finite", ((0, 9), (0, 12), (0, 16))))

    def test_0_turns(self):
        for web in ALL_WEBS:
            for room in range(web[0]):
                kind, members = turn_class(web, room, 0)
                self.assertEqual(kind, "finite")
                self.assertEqual(members, tuple((v, 0) for v in sorted({v for v, _ in searched(web, (room, 0))})))
        self.assertEqual(turn_class(BRIDGE, 1, 0), ("finite", ((0, 0), (1, 0))))

    def test_other_pieces(self):
        self.assertEqual(turn_class(PIECES, 2, 30), ("finite", ((2, 30),)))

    def test_500_members(self):
        # In 2, 3 and 5, so many exponents have the sum n: (n + 1) (n + 2) / 2; 496 for n = 30.
        kind, members = turn_class(THREE, 0, 2 ** 30)
        self.assertEqual((kind, len(members), members[0], members[-1]), ("finite", 496, (0, 2 ** 30), (0, 5 ** 30)))
        with self.assertRaises(TooMany) as caught:
            turn_class(THREE, 0, 2 ** 31)
        self.assertEqual(caught.exception.what, "members")
        with self.assertRaises(TooMany):
            turn_class(FOUR, 0, 7 ** 30)

    def test_500_and_501_members(self):
        # In 2 and 3 there are n + 1 members.
        kind, members = turn_class(TURNING, 0, 2 ** 499)
        self.assertEqual((kind, len(members)), ("finite", 500))
        self.assertEqual(members, tuple((0, 2 ** (499 - i) * 3 ** i) for i in range(500)))
        for turns in (2 ** 500, -3 ** 500, 2 ** 200 * 3 ** 301):
            with self.assertRaises(TooMany) as caught:
                turn_class(TURNING, 0, turns)
            self.assertEqual(caught.exception.what, "members")

    def test_great_turns(self):
        self.assertEqual(turn_class(STILL, 0, 10 ** 400), ("finite", ((0, 10 ** 400),)))


class EndlessTest(unittest.TestCase):
    def test_endless_classes(self):
        self.assertEqual(turn_class(DOUBLING, 0, 1), ("endless", (0, 1), (0, 2)))
        self.assertEqual(turn_class(DOUBLING, 0, -5), ("endless", (0, -5), (0, -10)))
        self.assertEqual(turn_class((1, ((0, 0, 2, 4),)), 0, 8), ("endless", (0, 8), (0, 16)))
        self.assertEqual(turn_class((1, ((0, 0, 4, 2),)), 0, 8), ("endless", (0, 4), (0, 8)))
        self.assertEqual(turn_class((1, ((0, 0, 2, 4),)), 0, 3), ("finite", ((0, 3),)))

    def test_the_lesser_amount_stands_first(self):
        self.assertEqual(turn_class((1, ((0, 0, 1, -2),)), 0, 3), ("endless", (0, 3), (0, -6)))
        self.assertEqual(turn_class((1, ((0, 0, -2, 1),)), 0, 6), ("endless", (0, -3), (0, 6)))

    def test_the_ways_out_in_their_order(self):
        web = (1, ((0, 0, 1, 3), (0, 0, 1, 2)))
        self.assertEqual(turn_class(web, 0, 6), ("endless", (0, 6), (0, 18)))
        web = (1, ((0, 0, 5, 3), (0, 0, 1, 2), (0, 0, 1, 7)))
        self.assertEqual(turn_class(web, 0, 1), ("endless", (0, 1), (0, 2)))

    def test_the_side_1_goes_ahead_of_the_side_minus_1(self):
        web = (1, ((0, 0, 2, 6),))
        self.assertEqual(turn_class(web, 0, 6), ("endless", (0, 6), (0, 18)))

    def test_the_opposite_does_not_end_the_search(self):
        self.assertEqual(turn_class((1, ((0, 0, 1, -1), (0, 0, 1, 2))), 0, 1), ("endless", (0, 1), (0, 2)))
        web = (1, ((0, 0, 1, -1), (0, 0, 2, 3)))
        self.assertEqual(turn_class(web, 0, 2), ("finite", ((0, 2), (0, -2), (0, 3), (0, -3))))

    def test_the_earliest_met_one_goes_with_it(self):
        # 6 meets 15 and then 10, 15 meets 30: the earliest of those that divide it is 6.
        web = (1, ((0, 0, 2, 5), (0, 0, 3, 5), (0, 0, 5, 10)))
        kind, first, second = turn_class(web, 0, 6)
        self.assertEqual((kind, first, second), ("endless",) + searched(web, (0, 6)))

    def test_rooms_count_apart(self):
        self.assertEqual(turn_class((2, ((0, 1, 1, 2),)), 0, 1), ("finite", ((0, 1), (1, 2))))
        self.assertEqual(turn_class((2, ((0, 1, 1, 2), (0, 1, 1, 3))), 0, 1), ("finite", ((0, 1), (1, 2), (1, 3))))
        self.assertEqual(turn_class((2, ((0, 1, 1, 2), (0, 1, 1, 4))), 0, 1), ("endless", (1, 2), (1, 4)))


class ManyTest(unittest.TestCase):
    def test_many_turns(self):
        chance = random.Random(331)
        kinds = set()
        for web in WEBS + (FOUR, THREE):
            for _ in range(25):
                room = chance.randrange(web[0])
                turns = chance.choice((1, -1)) * 2 ** chance.randint(0, 5) * 3 ** chance.randint(0, 4)
                turns *= chance.choice((1, 1, 5, 25, 7, 11))
                found = searched(web, (room, turns))
                if found is None:
                    with self.assertRaises(TooMany):
                        turn_class(web, room, turns)
                    continue
                told = turn_class(web, room, turns)
                kinds.add(told[0])
                if isinstance(found, tuple):
                    self.assertEqual(told, ("endless",) + found)
                else:
                    self.assertEqual(told[0], "finite")
                    self.assertEqual(sorted(told[1]), sorted(found))
                    for first, second in zip(told[1], told[1][1:]):
                        self.assertTrue(comes_before(web, first, second))
        self.assertEqual(kinds, {"finite", "endless"})

    def test_the_member_501_that_ends_the_search(self):
        web = (1, ((0, 0, 2, 3), (0, 0, 729, 5), (0, 0, 125, 7), (0, 0, 343, 11), (0, 0, 11, 22)))
        self.assertEqual(searched(web, (0, 2 ** 56)), ((0, 44), (0, 88)))
        self.assertEqual(turn_class(web, 0, 2 ** 56), ("endless", (0, 44), (0, 88)))
        # Here it is met as number 503, when there are too many.
        web = (1, ((0, 0, 2, 3), (0, 0, 243, 5), (0, 0, 125, 7), (0, 0, 343, 11), (0, 0, 11, 22)))
        self.assertIsNone(searched(web, (0, 2 ** 51)))
        self.assertEqual(searched(web, (0, 2 ** 51), 600), ((0, 704), (0, 1408)))
        with self.assertRaises(TooMany) as caught:
            turn_class(web, 0, 2 ** 51)
        self.assertEqual(caught.exception.what, "members")
