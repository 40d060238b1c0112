import random
import unittest
from fractions import Fraction
from math import gcd

from tests.changesamples import changed_by_words
from tests.samples import (
    ALL_WEBS, BRIDGE, DOUBLING, EVEN, KLEIN, LONE, MIRROR, PAIR, STILL, TURNING, back, closed_in, ends, joined, last_room,
    plain_by_words, same, some_closed, some_walk)
from tests.spansamples import some_web
from tests.test_counts import webs_in
from tubewords.counts import have_like_counts
from tubewords.pictures import fixed_place, is_pictured, led_by, map_after, map_back, picture_of
from tubewords.shares import share_of
from tubewords.webs import pieces_of

IDENTITY = ((1, 1), (0, 1))


def told(value):
    """A fraction as the document tells it."""
    value = Fraction(value)
    return (value.numerator, value.denominator)


def read(fraction):
    return Fraction(*fraction)


def some_fraction(chance, most=10 ** 30 - 1):
    return told(Fraction(chance.randint(-most, most), chance.randint(1, chance.choice((1, 9, most + 1)))))


def some_shifts(chance, web):
    return tuple([some_fraction(chance, chance.choice((0, 5, 10 ** 30 - 1))) for _ in web[1]])


def some_affine(chance):
    times = some_fraction(chance, 9)
    while times == (0, 1):
        times = some_fraction(chance, 9)
    return (times, some_fraction(chance, 99))


def led_by_words(web, shifts, walk, x):
    """Where a walk leads a fraction, turn for turn."""
    x += walk[1]
    for t, s, k in walk[2]:
        _, _, p, q = web[1][t]
        if s == 1:
            x = x * Fraction(q, p) + read(shifts[t])
        else:
            x = (x - read(shifts[t])) / Fraction(q, p)
        x += k
    return x


def picture_by_words(web, shifts, walk):
    zero, one = [led_by_words(web, shifts, walk, Fraction(x)) for x in (0, 1)]
    return (told(one - zero), told(zero))


def is_pictured_by_words(web, room):
    """[60], with the web drawn together one tie after the other, whatever the ends come to."""
    piece = next(piece for piece in pieces_of(web) if room in piece)
    web = (web[0], tuple([tie for tie in web[1] if tie[0] in piece]))
    many = len(piece)
    while True:
        found = [i for i, (v, w, p, q) in enumerate(web[1]) if v != w and 1 in (abs(p), abs(q))]
        if not found:
            break
        side = 1 if abs(web[1][found[0]][2]) == 1 else -1
        web = changed_by_words(web, ("draw in", found[0], side))
        many -= 1
    if many > 1 or len(web[1]) > 1:
        return False
    return web[1] == () or 1 in (abs(web[1][0][2]), abs(web[1][0][3]))


class PictureTest(unittest.TestCase):
    def test_pictures(self):
        for web, shifts, walk, expected in (
                (STILL, (), (0, 7, ()), ((1, 1), (7, 1))),
                (STILL, (), (0, -7, ()), ((1, 1), (-7, 1))),
                (DOUBLING, ((0, 1),), (0, 3, ((0, 1, 0),)), ((2, 1), (6, 1))),
                (DOUBLING, ((5, 3),), (0, 3, ((0, 1, 1),)), ((2, 1), (26, 3))),
                (DOUBLING, ((5, 3),), (0, 3, ((0, -1, 1),)), ((1, 2), (5, 3))),
                (TURNING, ((1, 2),), (0, 1, ((0, 1, 0),)), ((3, 2), (2, 1))),
                (TURNING, ((1, 2),), (0, 1, ((0, -1, 0),)), ((2, 3), (1, 3))),
                (KLEIN, ((0, 1),), (0, 1, ((0, 1, 4),)), ((-1, 1), (3, 1))),
                (MIRROR, ((1, 1),), (0, 2, ((0, 1, 0), (0, 1, 0))), ((9, 4), (4, 1))),
                (BRIDGE, ((-1, 7),), (1, 3, ((0, -1, 1),)), ((2, 3), (65, 21)))):
            self.assertEqual(picture_of(web, shifts, walk), expected)

    def test_shares_1_and_minus_1(self):
        self.assertEqual(picture_of(EVEN, ((0, 1),), (0, 0, ((0, 1, 0),))), IDENTITY)
        self.assertEqual(picture_of(EVEN, ((2, 3),), (0, 1, ((0, 1, 4),))), ((1, 1), (17, 3)))
        self.assertEqual(picture_of(KLEIN, ((2, 3),), (0, 1, ((0, 1, 4),))), ((-1, 1), (11, 3)))
        self.assertEqual(picture_of(KLEIN, ((2, 3),), (0, 0, ((0, 1, 0), (0, 1, 0)))), IDENTITY)

    def test_great_shifts(self):
        great = 10 ** 30 - 1
        self.assertEqual(picture_of(DOUBLING, ((great, 1),), (0, 0, ((0, 1, 0),))), ((2, 1), (great, 1)))
        self.assertEqual(picture_of(DOUBLING, ((-great, great - 1),), (0, 0, ((0, -1, 0),))), ((1, 2), (great, 2 * great - 2)))
        self.assertEqual(picture_of(TURNING, ((-great, 1),), (0, great, ((0, -1, 0),))), ((2, 3), (4 * great // 3, 1)))

    def test_by_words(self):
        chance = random.Random(2601)
        for web in ALL_WEBS * 15:
            shifts = some_shifts(chance, web)
            walk = some_walk(chance, web, chance.randint(0, 9), most=chance.choice((9, 10 ** 299)))
            affine = picture_of(web, shifts, walk)
            self.assertEqual(affine, picture_by_words(web, shifts, walk))
            self.assertEqual(affine[0], share_of(web, walk))
            for n, d in affine:
                self.assertEqual((gcd(n, d), d > 0), (1, True))

    def test_equal_walks(self):
        chance = random.Random(2602)
        for web in ALL_WEBS * 6:
            shifts = some_shifts(chance, web)
            walk = some_walk(chance, web, chance.randint(0, 9))
            other = some_walk(chance, web, 3, walk[0])
            for equal in (plain_by_words(web, walk), joined(other, back(web, other), walk)):
                self.assertEqual(picture_of(web, shifts, equal), picture_of(web, shifts, walk))

    def test_joined_and_opposite(self):
        chance = random.Random(2603)
        for web in ALL_WEBS * 6:
            shifts = some_shifts(chance, web)
            walk = some_walk(chance, web, chance.randint(0, 6))
            other = some_walk(chance, web, chance.randint(0, 6), last_room(web, walk))
            first, second = picture_of(web, shifts, walk), picture_of(web, shifts, other)
            self.assertEqual(picture_of(web, shifts, joined(walk, other)), map_after(first, second))
            self.assertEqual(picture_of(web, shifts, back(web, walk)), map_back(first))

    def test_turns(self):
        chance = random.Random(2604)
        for web in ALL_WEBS * 3:
            shifts = some_shifts(chance, web)
            walk = some_walk(chance, web, 3)
            turned = joined((walk[0], 5, ()), walk, back(web, walk))
            self.assertEqual(picture_of(web, shifts, turned), ((1, 1), (5, 1)))

    def test_two_closed_walks_of_the_share_1(self):
        chance = random.Random(2605)
        found = 0
        for web in ALL_WEBS * 20:
            walk = some_closed(chance, web, 4)
            other = some_closed(chance, web, 4, walk[0])
            if share_of(web, walk) == share_of(web, other) == (1, 1):
                found += 1
                shifts = some_shifts(chance, web)
                self.assertEqual(picture_of(web, shifts, joined(walk, other)), picture_of(web, shifts, joined(other, walk)))
        self.assertGreater(found, 60)


class AffineTest(unittest.TestCase):
    def test_led_by(self):
        self.assertEqual(led_by(((2, 3), (1, 2)), (3, 1)), (5, 2))
        self.assertEqual(led_by(((2, 3), (-2, 1)), (3, 1)), (0, 1))
        self.assertEqual(led_by(IDENTITY, (-7, 5)), (-7, 5))
        self.assertEqual(led_by(((-1, 1), (0, 1)), (-7, 5)), (7, 5))

    def test_map_after(self):
        self.assertEqual(map_after(((2, 1), (1, 1)), ((3, 1), (5, 1))), ((6, 1), (8, 1)))
        self.assertEqual(map_after(((3, 1), (5, 1)), ((2, 1), (1, 1))), ((6, 1), (11, 1)))

    def test_map_back(self):
        self.assertEqual(map_back(((2, 3), (1, 2))), ((3, 2), (-3, 4)))
        self.assertEqual(map_back(((-2, 1), (0, 1))), ((-1, 2), (0, 1)))
        self.assertEqual(map_back(IDENTITY), IDENTITY)

    def test_by_words(self):
        chance = random.Random(2606)
        for _ in range(400):
            first, second, x = some_affine(chance), some_affine(chance), some_fraction(chance, 50)
            self.assertEqual(led_by(first, x), told(read(first[0]) * read(x) + read(first[1])))
            both = map_after(first, second)
            self.assertEqual(led_by(both, x), led_by(second, led_by(first, x)))
            self.assertEqual(both[0], told(read(first[0]) * read(second[0])))
            self.assertEqual(led_by(map_back(first), led_by(first, x)), x)
            self.assertEqual(map_after(first, map_back(first)), IDENTITY)
            self.assertEqual(map_back(map_back(first)), first)

    def test_fixed_place(self):
        for affine, expected in ((IDENTITY, "all"), (((1, 1), (1, 2)), None), (((1, 1), (-3, 1)), None),
                                 (((2, 1), (0, 1)), (0, 1)), (((2, 1), (3, 1)), (-3, 1)), (((-1, 1), (3, 1)), (3, 2)),
                                 (((2, 3), (1, 2)), (3, 2)), (((3, 2), (1, 1)), (-2, 1)), (((-1, 1), (0, 1)), (0, 1))):
            self.assertEqual(fixed_place(affine), expected)
        chance = random.Random(2607)
        for _ in range(200):
            affine = some_affine(chance)
            if affine[0] != (1, 1):
                self.assertEqual(led_by(affine, fixed_place(affine)), fixed_place(affine))


class PicturedTest(unittest.TestCase):
    def test_the_example_of_the_document(self):
        walk, other = (0, 0, ((0, 1, 1), (0, -1, 1))), (0, 1, ((0, 1, 1), (0, -1, 0)))
        self.assertIs(is_pictured(TURNING, 0), False)
        self.assertFalse(same(TURNING, walk, other))
        self.assertTrue(have_like_counts(TURNING, walk, other))
        chance = random.Random(2608)
        for _ in range(20):
            shifts = some_shifts(chance, TURNING)
            self.assertEqual(picture_of(TURNING, shifts, walk), picture_of(TURNING, shifts, other))

    def test_rooms(self):
        for web, expected in (
                (STILL, [True]), (LONE, [True] * 4), (DOUBLING, [True]), (KLEIN, [True]), (EVEN, [False]),
                (BRIDGE, [False, False]), ((1, ((0, 0, 1000, -1),)), [True]), ((1, ((0, 0, 1, 1),) * 2), [False]),
                ((2, ((0, 1, 1, 5),)), [True, True]), ((2, ((0, 1, 5, -1), (0, 0, 2, 1))), [True, True]),
                # An end becomes greater: 1 turn of room 0 is 5 turns of room 1.
                ((2, ((0, 1, 1, 5), (0, 0, 2, 1))), [False, False]),
                ((2, ((0, 1, 1, 5), (0, 1, 3, 1))), [True, True]),
                ((2, ((0, 1, 2, 5), (0, 1, 3, 1))), [False, False]),
                ((3, ((0, 1, 2, 3), (1, 2, 1, 1))), [False] * 3),
                # Several pieces.
                ((5, ((0, 0, 2, 2), (1, 2, 1, 3), (4, 4, 1, 7))), [False, True, True, True, True]),
                ((4, ((3, 3, 1, 1), (0, 2, 3, 3))), [False, True, False, True])):
            self.assertEqual([is_pictured(web, room) for room in range(web[0])], expected)

    def test_ends_beyond_1000(self):
        web = (4, ((0, 1, 1, 999), (1, 2, 1, 999), (2, 3, 1, 999), (0, 0, 1, 1)))
        self.assertEqual([is_pictured(web, room) for room in range(4)], [False] * 4)
        web = (4, ((0, 1, 1, 999), (1, 2, 1, 999), (2, 3, 1, 999), (0, 3, 7, 1)))
        self.assertEqual([is_pictured(web, room) for room in range(4)], [True] * 4)

    def test_which_end_is_taken_first(self):
        # Where both ends are 1 or -1 the first room goes; the first tie goes ahead of the others.
        for web in webs_in(2609, 500):
            for room in range(web[0]):
                self.assertIs(is_pictured(web, room), is_pictured_by_words(web, room))
        chance = random.Random(2610)
        counts = {True: 0, False: 0}
        for _ in range(800):
            rooms = chance.randint(1, 5)
            sizes = (1, -1, 1, 2, -3)
            ties = [(chance.randrange(rooms), chance.randrange(rooms), chance.choice(sizes), chance.choice(sizes))
                    for _ in range(chance.randint(rooms - 1, rooms))]
            web = (rooms, tuple(ties))
            for room in range(rooms):
                expected = is_pictured_by_words(web, room)
                counts[expected] += 1
                self.assertIs(is_pictured(web, room), expected)
        self.assertGreater(min(counts.values()), 200)

    def test_what_pictures_tell(self):
        # In pictured rooms closed walks are equal exactly if they have like counts and the same picture.
        chance = random.Random(2611)
        webs = (STILL, DOUBLING, KLEIN, (1, ((0, 0, 1, 1),)), (1, ((0, 0, -1, 3),)), (2, ((0, 1, 5, -1), (0, 0, 2, 1))),
                (2, ((0, 1, 1, 5), (0, 1, 3, 1))), (3, ((0, 1, 1, 2), (1, 2, 1, 1), (2, 0, 1, 1))))
        counts = {True: 0, False: 0}
        for web in webs * 60:
            self.assertTrue(is_pictured(web, 0))
            walk = some_closed(chance, web, 5, 0, 2)
            other = some_closed(chance, web, 5, 0, 2)
            if chance.random() < 0.5:
                other = joined(other, back(web, joined(walk, other)), walk, walk)
                if chance.random() < 0.5:
                    other = joined(other, walk, back(web, walk))
            zeros = ((0, 1),) * len(web[1])
            alike = have_like_counts(web, walk, other) and picture_of(web, zeros, walk) == picture_of(web, zeros, other)
            counts[alike] += 1
            self.assertIs(alike, same(web, walk, other))
        self.assertGreater(min(counts.values()), 50)

    def test_what_they_do_not_tell(self):
        # In a room that is not pictured, of two walks of the share 1 joined in both orders some are not equal.
        chance = random.Random(2612)
        for web in (TURNING, EVEN, MIRROR, BRIDGE, PAIR, (1, ((0, 0, 1, 1),) * 2)):
            self.assertFalse(is_pictured(web, 0))
            found = 0
            walks = [walk for walk in closed_in(web, 2613, 150, 5, 0) if share_of(web, walk) == (1, 1)]
            for _ in range(200):
                walk, other = chance.choice(walks), chance.choice(walks)
                first, second = joined(walk, other), joined(other, walk)
                self.assertTrue(have_like_counts(web, first, second))
                shifts = some_shifts(chance, web)
                self.assertEqual(picture_of(web, shifts, first), picture_of(web, shifts, second))
                found += not same(web, first, second)
            self.assertGreater(found, 0)

    def test_rooms_of_one_piece(self):
        chance = random.Random(2614)
        for web in [some_web(chance) for _ in range(100)]:
            for piece in pieces_of(web):
                self.assertEqual(len({is_pictured(web, room) for room in piece}), 1)
                self.assertTrue(all(ends(web, t, 1)[0] in piece for t, tie in enumerate(web[1]) if tie[1] in piece))
