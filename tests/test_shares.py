import random
import unittest
from fractions import Fraction

from tests.samples import (
    ALL_WEBS, BRIDGE, DOUBLING, EVEN, KLEIN, LONE, MIRROR, MOST, STILL, TRIANGLE, TURNING, WEBS, ends, joined,
    least_passing, same, some_walk, walks_in)
from tubewords.plainwalks import plain_walk
from tubewords.shares import passed_turns, share_of, toll_of


def share_by_words(web, walk):
    share = Fraction(1)
    for t, s, _ in walk[2]:
        _, _, ahead, behind = ends(web, t, s)
        share *= Fraction(behind, ahead)
    return (share.numerator, share.denominator)


def passed_by_words(web, walk, turns):
    for t, s, _ in walk[2]:
        _, _, ahead, behind = ends(web, t, s)
        if turns % ahead:
            return None
        turns = turns // ahead * behind
    return turns


class ShareTest(unittest.TestCase):
    def test_shares(self):
        self.assertEqual(share_of(TURNING, (0, 7, ())), (1, 1))
        self.assertEqual(share_of(TURNING, (0, 7, ((0, 1, 5),))), (3, 2))
        self.assertEqual(share_of(TURNING, (0, 7, ((0, -1, 5),))), (2, 3))
        self.assertEqual(share_of(TURNING, (0, 0, ((0, 1, 5), (0, -1, 1), (0, -1, 0)))), (2, 3))
        self.assertEqual(share_of(DOUBLING, (0, 0, ((0, 1, 0),) * 60)), (2 ** 60, 1))

    def test_lowest_terms_with_a_divisor_above_0(self):
        self.assertEqual(share_of((1, ((0, 0, 4, 6),)), (0, 0, ((0, 1, 0),))), (3, 2))
        self.assertEqual(share_of((1, ((0, 0, -4, 6),)), (0, 0, ((0, 1, 0),))), (-3, 2))
        self.assertEqual(share_of((1, ((0, 0, -4, 6),)), (0, 0, ((0, -1, 0),))), (-2, 3))
        self.assertEqual(share_of((1, ((0, 0, -4, -6),)), (0, 0, ((0, 1, 0),))), (3, 2))
        self.assertEqual(share_of((1, ((0, 0, 4, -4),)), (0, 0, ((0, 1, 0),))), (-1, 1))
        self.assertEqual(share_of(MIRROR, (0, 0, ((0, 1, 0), (0, 1, 0)))), (9, 4))

    def test_many_walks(self):
        for web in WEBS:
            for walk in walks_in(web, 301, 30):
                self.assertEqual(share_of(web, walk), share_by_words(web, walk))

    def test_equal_walks_have_the_same_share(self):
        for web in WEBS:
            for walk in walks_in(web, 302, 20):
                self.assertEqual(share_of(web, walk), share_of(web, plain_walk(web, walk)))


class TollTest(unittest.TestCase):
    def test_tolls(self):
        self.assertEqual(toll_of(STILL, (0, 9, ())), (1, 1))
        self.assertEqual(toll_of(TURNING, (0, 9, ((0, 1, 5),))), (2, 3))
        self.assertEqual(toll_of(MIRROR, (0, 9, ((0, 1, 5),))), (2, -3))
        self.assertEqual(toll_of(MIRROR, (0, 9, ((0, -1, 5),))), (3, -2))
        self.assertEqual(toll_of(TURNING, (0, 1, ((0, 1, 1), (0, 1, 1)))), (4, 9))
        self.assertEqual(toll_of(TURNING, (0, 1, ((0, 1, 1), (0, -1, 1)))), (2, 2))
        self.assertEqual(toll_of(KLEIN, (0, 1, ((0, 1, 1),))), (1, -1))

    def test_its_own_turns_do_not_matter(self):
        for turns in (0, 1, -7, MOST):
            self.assertEqual(toll_of(EVEN, (0, turns, ((0, 1, turns), (0, 1, -turns)))), (2, 2))

    def test_many_walks(self):
        for web in WEBS:
            for walk in walks_in(web, 303, 20, 5):
                if least_passing(web, [step[:2] for step in walk[2]])[0] < 3000:
                    self.assertEqual(toll_of(web, walk), least_passing(web, [step[:2] for step in walk[2]]))

    def test_great_tolls(self):
        self.assertEqual(toll_of(TURNING, (0, 0, ((0, 1, 0),) * 60)), (2 ** 60, 3 ** 60))
        self.assertEqual(toll_of(TURNING, (0, 0, ((0, 1, 0), (0, -1, 0)) * 30)), (2, 2))


class PassedTest(unittest.TestCase):
    def test_turns_that_pass(self):
        walk = (0, 5, ((0, 1, 7),))
        self.assertEqual(passed_turns(TURNING, walk, 2), 3)
        self.assertEqual(passed_turns(TURNING, walk, -8), -12)
        self.assertEqual(passed_turns(MIRROR, walk, 2), -3)
        self.assertEqual(passed_turns(MIRROR, walk, -2), 3)
        self.assertEqual(passed_turns(BRIDGE, (1, 1, ((0, -1, 1),)), 9), 6)
        self.assertEqual(passed_turns(STILL, (0, 1, ()), 9), 9)
        self.assertEqual(passed_turns(TURNING, walk, 2 * 10 ** 400), 3 * 10 ** 400)

    def test_turns_that_do_not_pass(self):
        for turns in (1, -1, 3, -7, 10 ** 400 + 1):
            self.assertIsNone(passed_turns(TURNING, (0, 0, ((0, 1, 0),)), turns))
        self.assertIsNone(passed_turns(TURNING, (0, 0, ((0, 1, 0), (0, 1, 0))), 2))
        # 6 turns come out as 4 and then as 6 again, though the share is 1 and 1 turn does not pass.
        self.assertEqual(passed_turns(TURNING, (0, 0, ((0, -1, 0), (0, 1, 0))), 6), 6)
        self.assertIsNone(passed_turns(TURNING, (0, 0, ((0, -1, 0), (0, 1, 0))), 2))

    def test_0_turns_pass_every_walk(self):
        for web in ALL_WEBS:
            for walk in walks_in(web, 304, 10):
                told = passed_turns(web, walk, 0)
                self.assertEqual(told, 0)
                self.assertIsNotNone(told)

    def test_many_walks(self):
        chance = random.Random(305)
        for web in WEBS:
            for _ in range(30):
                walk = some_walk(chance, web, chance.randint(0, 4))
                for turns in list(range(-13, 14)) + [chance.choice((1, -1)) * 2 ** 9 * 3 ** 7 * 25]:
                    self.assertEqual(passed_turns(web, walk, turns), passed_by_words(web, walk, turns))

    def test_passing_is_joining(self):
        for web in (TURNING, MIRROR, TRIANGLE):
            for walk in walks_in(web, 306, 15, 3):
                m, k = toll_of(web, walk)
                end = ends(web, *walk[2][-1][:2])[1] if walk[2] else walk[0]
                for turns in (m, -m, 3 * m):
                    out = passed_turns(web, walk, turns)
                    self.assertEqual(out, turns // m * k)
                    self.assertTrue(same(web, joined((walk[0], turns, ()), walk), joined(walk, (end, out, ()))))
                if m > 1:
                    self.assertIsNone(passed_turns(web, walk, m + 1))

    def test_rooms_without_ties(self):
        self.assertEqual(passed_turns(LONE, (3, 4, ()), -5), -5)
        self.assertEqual(toll_of(LONE, (3, 4, ())), (1, 1))
        self.assertEqual(share_of(LONE, (3, 4, ())), (1, 1))
