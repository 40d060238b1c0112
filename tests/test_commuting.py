import random
import unittest

from tests.linesamples import E, LINE_WEBS, MINUS, TWO_TIES, going_in, length, power, share_sign
from tests.samples import (
    DOUBLING, EVEN, KLEIN, STILL, TRIANGLE, TURNING, WEBS, back, closed_in, joined, plain_by_words, same, some_walk)
from tubewords.commuting import commuting_sort, do_commute, what_commutes
from tubewords.linewalks import line_numbers, line_walks, still_walk
from tubewords.roots import common_powers, greatest_root, has_lone_roots, root_for
from tubewords.walks import is_walk

# A walk for each row of the table of [40], with the greatest count of its roots.
ROW_1 = (DOUBLING, power(DOUBLING, E, 6), 6)
ROW_2 = (EVEN, (0, 0, ((0, 1, 0), (0, 1, 0), (0, 1, 0), (0, 1, 8))), 4)
ROW_3 = (KLEIN, (0, 0, ((0, 1, 0), (0, 1, 0), (0, 1, 5))), 3)
ROW_4 = (KLEIN, (0, 0, ((0, 1, 0),) * 11 + ((0, 1, 4),)), 2)
ROW_5 = (KLEIN, (0, 0, ((0, 1, 0),) * 12), 12)
ROWS = (ROW_1, ROW_2, ROW_3, ROW_4, ROW_5)


def row_by_words(web, walk):
    """The row of the table of [40], by n and j of the walk and the share of t."""
    told = line_walks(web, walk)
    if len(told) == 1:
        return 1
    if share_sign(web, told[0]) == 1:
        return 2
    n, j = line_numbers(web, told, walk)
    return 3 if n % 2 else 4 if j else 5


def commute_by_words(web, first, second):
    return same(web, joined(first, second), joined(second, first))


class CommuteTest(unittest.TestCase):
    def test_do_commute(self):
        self.assertIs(do_commute(STILL, (0, 5, ()), (0, -7, ())), True)
        self.assertIs(do_commute(EVEN, E, (0, 2, ())), True)
        self.assertIs(do_commute(EVEN, E, (0, 3, ())), False)
        self.assertIs(do_commute(KLEIN, E, (0, 1, ())), False)
        self.assertIs(do_commute(KLEIN, power(KLEIN, E, 2), (0, 1, ())), True)
        self.assertIs(do_commute(DOUBLING, E, power(DOUBLING, E, -5)), True)

    def test_many_walks(self):
        counts = {True: 0, False: 0}
        for web in WEBS + LINE_WEBS:
            walks = closed_in(web, 431, 6, 4, 0) + [(0, 6, ()), (0, 1, ())]
            walks += [power(web, walk, 2) for walk in walks[:3]]
            for first in walks:
                for second in walks:
                    expected = commute_by_words(web, first, second)
                    counts[expected] += 1
                    self.assertIs(do_commute(web, first, second), expected)
        self.assertGreater(min(counts.values()), 200)


class TableTest(unittest.TestCase):
    def test_each_row(self):
        for (web, walk, _), row, sort, size in zip(ROWS, (1, 2, 3, 4, 5),
                                                   ("alone", "together", "alone", "together", "against"),
                                                   (1, 2, 1, 2, 2)):
            self.assertEqual(row_by_words(web, walk), row)
            self.assertEqual(commuting_sort(web, walk), sort)
            self.assertEqual(len(what_commutes(web, walk)), size)

    def test_h(self):
        self.assertTrue(same(DOUBLING, what_commutes(*ROW_1[:2])[0], E))
        h, f = what_commutes(*ROW_2[:2])
        self.assertEqual(length(EVEN, h), 1)
        self.assertTrue(same(EVEN, f, (0, 2, ())))
        # The cube of h is the walk itself, with just its own turns.
        h, = what_commutes(*ROW_3[:2])
        self.assertEqual(length(KLEIN, h), 1)
        self.assertTrue(same(KLEIN, power(KLEIN, h, 3), ROW_3[1]))
        h, f = what_commutes(*ROW_4[:2])
        self.assertEqual(length(KLEIN, h), 2)
        self.assertEqual(length(KLEIN, what_commutes(*ROW_5[:2])[0]), 1)

    def test_what_commutes_commutes(self):
        rows = {}
        for web in LINE_WEBS:
            for walk in going_in(web, 432, 14):
                row = row_by_words(web, walk)
                rows[row] = rows.get(row, 0) + 1
                told = what_commutes(web, walk)
                sort = commuting_sort(web, walk)
                self.assertEqual(sort, {1: "alone", 2: "together", 3: "alone", 4: "together", 5: "against"}[row])
                self.assertEqual(sort == "alone", len(told) == 1)
                self.assertEqual(sort == "alone", share_sign(web, walk) != 1)
                for part in told:
                    self.assertTrue(is_walk(web, part))
                    self.assertTrue(commute_by_words(web, part, walk))
                if len(told) == 2:
                    self.assertEqual(commute_by_words(web, *told), sort == "together")
                    self.assertTrue(same(web, told[1], still_walk(web, walk)))
                self.assertEqual(line_numbers(web, told, walk) is not None, True)
        self.assertEqual(sorted(rows), [1, 2, 3, 4, 5])
        self.assertGreater(min(rows.values()), 4)

    def test_just_this_commutes(self):
        chance = random.Random(433)
        counts = {True: 0, False: 0}
        for web in LINE_WEBS:
            for walk in going_in(web, 434, 8):
                told = what_commutes(web, walk)
                line = line_walks(web, walk)
                others = [joined(power(web, line[0], a), power(web, line[-1], b)) for a in (-1, 0, 1, 2) for b in (0, 1, -2)]
                others += closed_in(web, chance.randint(0, 9999), 5, 4, walk[0])
                for other in others:
                    if len(plain_by_words(web, other)[2]) > 24:
                        continue
                    commutes = commute_by_words(web, walk, other)
                    counts[commutes] += 1
                    self.assertEqual(line_numbers(web, told, other) is not None, commutes, (web, walk, other))
        self.assertGreater(min(counts.values()), 200)

    def test_h_may_not_be_too_long(self):
        for web, walk, _ in ROWS:
            for part in what_commutes(web, walk):
                self.assertTrue(is_walk(web, part))


class RootTest(unittest.TestCase):
    def test_greatest_roots_of_each_row(self):
        for web, walk, greatest in ROWS:
            n, root = greatest_root(web, walk)
            self.assertEqual(n, greatest)
            self.assertTrue(same(web, power(web, root, n), walk))
            for count in range(1, 30):
                root = root_for(web, walk, count)
                self.assertEqual(root is not None, greatest % count == 0)
                if root is not None:
                    self.assertTrue(same(web, power(web, root, count), walk))
            self.assertIs(has_lone_roots(web, walk), (web, walk, greatest) != ROW_5)

    def test_numbers_without_a_common_divisor(self):
        for turns, greatest in ((0, 4), (2, 1), (4, 2), (6, 1), (-8, 4), (10, 1)):
            walk = (0, 0, ((0, 1, 0),) * 3 + ((0, 1, turns),))
            self.assertEqual(greatest_root(EVEN, walk)[0], greatest, turns)
        for turns, greatest in ((0, 4), (1, 1), (2, 2), (3, 1), (4, 2), (-6, 2)):
            walk = (0, 0, ((0, 1, 0),) * 3 + ((0, 1, turns),))
            self.assertEqual(greatest_root(KLEIN, walk)[0], greatest, turns)
        for turns in range(-4, 5):
            self.assertEqual(greatest_root(KLEIN, (0, 0, ((0, 1, 0),) * 4 + ((0, 1, turns),)))[0], 5)

    def test_examples_of_the_document(self):
        square = power(KLEIN, E, 2)
        for b in range(-7, 8):
            self.assertTrue(same(KLEIN, power(KLEIN, (0, 0, ((0, 1, b),)), 2), square))
        self.assertIs(has_lone_roots(KLEIN, square), False)
        self.assertEqual(greatest_root(KLEIN, square)[0], 2)
        self.assertIs(has_lone_roots(DOUBLING, E), True)
        self.assertEqual(commuting_sort(DOUBLING, E), "alone")

    def test_walks_without_other_roots(self):
        for web in (TURNING, DOUBLING, EVEN, KLEIN):
            n, root = greatest_root(web, E)
            self.assertEqual(n, 1)
            self.assertTrue(same(web, root, E))
            self.assertIsNone(root_for(web, E, 2))
            self.assertTrue(same(web, root_for(web, E, 1), E))
            self.assertIsNone(root_for(web, E, 10 ** 30))

    def test_powers_have_roots(self):
        chance = random.Random(435)
        seen = 0
        for web in LINE_WEBS:
            for root in going_in(web, 436, 12, 4):
                count = chance.choice((2, 3, 4, 5))
                walk = power(web, root, count)
                if len(plain_by_words(web, walk)[2]) > 24 or len(walk[2]) > 60:
                    continue
                seen += 1
                told = root_for(web, walk, count)
                self.assertIsNotNone(told)
                self.assertTrue(is_walk(web, told))
                self.assertTrue(same(web, power(web, told, count), walk))
                if has_lone_roots(web, walk):
                    self.assertTrue(same(web, told, root))
                greatest, best = greatest_root(web, walk)
                self.assertEqual(greatest % count, 0)
                self.assertTrue(same(web, power(web, best, greatest), walk))
        self.assertGreater(seen, 60)

    def test_there_are_no_other_roots(self):
        for web in LINE_WEBS:
            for walk in going_in(web, 437, 8):
                greatest, _ = greatest_root(web, walk)
                line = line_walks(web, walk)
                n = length(web, walk) // length(web, line[0])
                for count in range(1, n + 1):
                    if n % count == 0 and len(line) == 2:
                        candidates = [joined(power(web, line[0], n // count), power(web, line[1], b)) for b in range(-9, 10)]
                        if any(same(web, power(web, root, count), walk) for root in candidates):
                            self.assertEqual(greatest % count, 0)
                    self.assertEqual(root_for(web, walk, count) is not None, greatest % count == 0)

    def test_infinitely_many_roots(self):
        for web in LINE_WEBS:
            for walk in going_in(web, 438, 10):
                greatest, root = greatest_root(web, walk)
                told = what_commutes(web, walk)
                if not has_lone_roots(web, walk):
                    for b in range(-4, 5):
                        other = joined(root, power(web, told[1], b))
                        self.assertTrue(same(web, power(web, other, greatest), walk))
                        self.assertEqual(same(web, other, root), b == 0)
                elif len(told) == 2:
                    for b in (1, -1, 2):
                        self.assertFalse(same(web, power(web, joined(root, power(web, told[1], b)), greatest), walk))


class CommonPowersTest(unittest.TestCase):
    def by_words(self, web, first, second, most=9):
        found = []
        for i in range(1, most):
            for j in range(-most, most + 1):
                if j and i * length(web, first) == abs(j) * length(web, second):
                    if same(web, power(web, first, i), power(web, second, j)):
                        found.append((i, j))
        return found[0] if found else None

    def test_powers_in_common(self):
        self.assertEqual(common_powers(DOUBLING, E, E), (1, 1))
        self.assertEqual(common_powers(DOUBLING, E, back(DOUBLING, E)), (1, -1))
        self.assertEqual(common_powers(DOUBLING, power(DOUBLING, E, 4), power(DOUBLING, E, -6)), (3, -2))
        self.assertIsNone(common_powers(DOUBLING, E, (0, 0, ((0, 1, 1),))))
        self.assertIsNone(common_powers(EVEN, E, (0, 0, ((0, 1, 2),))))
        self.assertEqual(common_powers(KLEIN, E, (0, 0, ((0, 1, 5),))), (2, 2))
        self.assertEqual(common_powers(KLEIN, E, (0, 5, ((0, -1, 0),))), (2, -2))
        self.assertEqual(common_powers(KLEIN, power(KLEIN, E, 2), (0, 0, ((0, 1, 5),))), (1, 2))
        self.assertEqual(common_powers(KLEIN, E, (0, 0, ((0, 1, 0), (0, 1, 0), (0, 1, 3)))), (6, 2))

    def test_each_row(self):
        for web, walk, greatest in ROWS:
            root = greatest_root(web, walk)[1]
            self.assertEqual(common_powers(web, root, walk), (greatest, 1))
            self.assertEqual(common_powers(web, walk, root), (1, greatest))
            self.assertEqual(common_powers(web, walk, back(web, root)), (1, -greatest))

    def test_many_walks(self):
        chance = random.Random(439)
        counts = {}
        for web in LINE_WEBS:
            for walk in going_in(web, 440, 6, 3):
                line = line_walks(web, walk)
                others = [power(web, walk, chance.choice((-2, 2, 3))), line[0], back(web, line[0])]
                others += [joined(line[0], power(web, line[-1], b)) for b in (-1, 1, 2)]
                v = some_walk(chance, web, 2, walk[0], 3)
                others += [joined(back(web, v), walk, v)] if same_rooms(web, v) else []
                for other in others:
                    if length(web, other) == 0 or len(plain_by_words(web, other)[2]) > 24:
                        continue
                    if length(web, walk) > 3 or length(web, other) > 3:
                        continue
                    told = common_powers(web, walk, other)
                    counts[told] = counts.get(told, 0) + 1
                    self.assertEqual(told, self.by_words(web, walk, other), (web, walk, other))
        self.assertGreater(counts[None], 10)
        self.assertGreater(len(counts), 6)

    def test_long_walks(self):
        web = (1, ((0, 0, 1, 100),))
        first, second = (0, 0, ((0, 1, 1),) * 24), (0, 0, ((0, 1, 1),) * 23)
        self.assertEqual(common_powers(web, first, second), (23, 24))
        self.assertEqual(common_powers(web, second, back(web, first)), (24, -23))
        self.assertIsNone(common_powers(web, first, (0, 0, ((0, 1, 1),) * 23 + ((0, 1, 2),))))
        self.assertEqual(common_powers(TWO_TIES, (0, 0, ((0, 1, 0), (1, 1, 0))), (0, 0, ((0, 1, 0), (1, 1, 6)))), (2, 2))
        self.assertEqual(common_powers(MINUS, (0, 0, ((0, 1, 0),)), (0, 0, ((0, 1, -4),))), (2, 2))
        self.assertIsNone(common_powers(MINUS, (0, 0, ((0, 1, 0),)), (0, 0, ((0, 1, 1),))))
        self.assertIsNone(common_powers(TRIANGLE, (0, 0, ((0, 1, 0), (1, 1, 0), (2, 1, 0))),
                                        (0, 0, ((0, 1, 0), (1, 1, 0), (2, 1, 1)))))


def same_rooms(web, walk):
    return not walk[2] or [walk[0]] == [web[1][walk[2][-1][0]][1 if walk[2][-1][1] == 1 else 0]]
