import unittest

from tests.samples import (
    BOUND, BRIDGE, LONE, MOST, OTHER_KINDS, TURNING, WEBS, is_plain_by_words, last_room, plain_by_words, same, spoilt,
    walks_in)
from tubewords.errors import NoMove, TooGreat
from tubewords.papers import equality_paper, is_equality_paper
from tubewords.walks import moved_walk

STEEP = (1, ((0, 0, 1, 1000),))
ONES = (1, ((0, 0, 1, 1),))
FIRST = (0, 2, ((0, 1, 0),))
SECOND = (0, 0, ((0, 1, 3),))
THIRD = (0, 0, ((0, 1, 2),))
CARRY = ("carry", 1, 1)
BACK = ("carry", 1, -1)


def is_right(web, first, second, paper):
    """Whether a paper is right by [10], and of the kind that the walks ask for."""
    if same(web, first, second):
        return paper[0] == "equal" and len(paper) == 2 and moved_walk(web, first, paper[1]) == second
    one, other = moved_walk(web, first, paper[1]), moved_walk(web, second, paper[2])
    plain = is_plain_by_words(web, one) and is_plain_by_words(web, other)
    return paper[0] == "unlike" and len(paper) == 3 and plain and one != other


class MakePaperTest(unittest.TestCase):
    def test_many_walks(self):
        for web in WEBS:
            walks = walks_in(web, 21, 8, 5)
            walks += [plain_by_words(web, walk) for walk in walks[:4]]
            for first in walks:
                for second in walks:
                    paper = equality_paper(web, first, second)
                    self.assertTrue(is_right(web, first, second, paper), (web, first, second, paper))
                    self.assertIs(is_equality_paper(web, first, second, paper), True)

    def test_long_walks(self):
        walk = (0, 0, ((0, 1, 3), (0, -1, 2)) * 30)
        for other in (walk, plain_by_words(TURNING, walk), (0, 1, ()), (0, 0, ((0, 1, 3), (0, -1, 2)) * 29)):
            paper = equality_paper(TURNING, walk, other)
            self.assertTrue(is_right(TURNING, walk, other, paper))
            self.assertIs(is_equality_paper(TURNING, walk, other, paper), True)
            paper = equality_paper(TURNING, other, walk)
            self.assertTrue(is_right(TURNING, other, walk, paper))
            self.assertIs(is_equality_paper(TURNING, other, walk, paper), True)

    def test_unlike_rooms(self):
        self.assertEqual(equality_paper(LONE, (0, 0, ()), (1, 0, ())), ("unlike", (), ()))

    def test_too_great(self):
        great = (0, MOST, ((0, 1, 0), (0, -1, 0)))
        small = (0, 3, ())
        for first, second in ((great, small), (small, great), (great, great), (great, (0, MOST, ()))):
            with self.assertRaises(TooGreat) as caught:
                equality_paper(STEEP, first, second)
            self.assertEqual(caught.exception.what, "turns")
        low = (0, -MOST, ((0, 1, 0), (0, -1, 0)))
        with self.assertRaises(TooGreat):
            equality_paper(STEEP, low, small)
        paper = equality_paper(ONES, (0, MOST, ((0, 1, 0),)), (0, 0, ((0, 1, MOST),)))
        self.assertIs(is_equality_paper(ONES, (0, MOST, ((0, 1, 0),)), (0, 0, ((0, 1, MOST),)), paper), True)


class EqualPaperTest(unittest.TestCase):
    def test_right_papers(self):
        for moves in ((CARRY,), (CARRY, BACK, CARRY), (("carry", 1, 3), ("carry", 1, -2)),
                      (("put", 0, 0, 1, 5), CARRY, ("carry", 1, -1), ("strike", 1), CARRY)):
            self.assertIs(is_equality_paper(TURNING, FIRST, SECOND, ("equal", moves)), True, moves)
        self.assertIs(is_equality_paper(TURNING, SECOND, FIRST, ("equal", (BACK,))), True)
        self.assertIs(is_equality_paper(TURNING, FIRST, FIRST, ("equal", ())), True)

    def test_wrong_papers(self):
        for moves in ((), (BACK,), (CARRY, CARRY), (CARRY, "x"), ("x",), (CARRY, ("strike", 1))):
            self.assertIs(is_equality_paper(TURNING, FIRST, SECOND, ("equal", moves)), False, moves)
        self.assertIs(is_equality_paper(TURNING, SECOND, FIRST, ("equal", (CARRY,))), False)
        self.assertIs(is_equality_paper(TURNING, FIRST, THIRD, ("equal", (CARRY,))), False)

    def test_numbers_of_moves(self):
        self.assertIs(is_equality_paper(TURNING, FIRST, FIRST, ("equal", (CARRY, BACK) * 1000)), True)
        self.assertIs(is_equality_paper(TURNING, FIRST, SECOND, ("equal", (CARRY, BACK) * 999 + (CARRY,))), True)
        self.assertIs(is_equality_paper(TURNING, FIRST, SECOND, ("equal", (CARRY, BACK) * 1000 + (CARRY,))), False)
        self.assertIs(is_equality_paper(TURNING, FIRST, FIRST, ("equal", (CARRY, BACK) * 1001)), False)

    def test_walks_on_the_way_are_in_bounds(self):
        far = ("carry", 1, BOUND)
        self.assertIs(is_equality_paper(TURNING, FIRST, FIRST, ("equal", (far, ("carry", 1, -BOUND)))), False)


class UnlikePaperTest(unittest.TestCase):
    def test_right_papers(self):
        self.assertIs(is_equality_paper(TURNING, FIRST, THIRD, ("unlike", (CARRY,), ())), True)
        self.assertIs(is_equality_paper(TURNING, THIRD, FIRST, ("unlike", (), (CARRY,))), True)
        self.assertIs(is_equality_paper(TURNING, FIRST, THIRD, ("unlike", (BACK, ("carry", 1, 2)), (CARRY, BACK))), True)
        self.assertIs(is_equality_paper(BRIDGE, (0, 0, ()), (1, 0, ()), ("unlike", (), ())), True)

    def test_the_walks_come_to_unlike_walks(self):
        self.assertIs(is_equality_paper(TURNING, FIRST, SECOND, ("unlike", (CARRY,), ())), False)
        self.assertIs(is_equality_paper(TURNING, SECOND, SECOND, ("unlike", (), ())), False)

    def test_the_walks_come_to_plain_walks(self):
        self.assertIs(is_equality_paper(TURNING, FIRST, THIRD, ("unlike", (), ())), False)
        self.assertIs(is_equality_paper(TURNING, THIRD, FIRST, ("unlike", (), ())), False)
        self.assertIs(is_equality_paper(TURNING, FIRST, SECOND, ("unlike", (), ())), False)
        self.assertIs(is_equality_paper(TURNING, FIRST, THIRD, ("unlike", (CARRY,), (CARRY,))), False)
        self.assertIs(is_equality_paper(TURNING, FIRST, THIRD, ("unlike", (CARRY, CARRY), ())), False)

    def test_each_walk_has_its_own_moves(self):
        self.assertIs(is_equality_paper(TURNING, THIRD, FIRST, ("unlike", (CARRY,), ())), False)
        self.assertIs(is_equality_paper(TURNING, FIRST, THIRD, ("unlike", (), (CARRY,))), False)
        self.assertIs(is_equality_paper(TURNING, FIRST, THIRD, ("unlike", (CARRY, "x"), ())), False)
        self.assertIs(is_equality_paper(TURNING, FIRST, THIRD, ("unlike", (CARRY,), ("x",))), False)

    def test_numbers_of_moves(self):
        many, more = (CARRY, BACK) * 1000, (CARRY, BACK) * 1001
        self.assertIs(is_equality_paper(TURNING, FIRST, THIRD, ("unlike", many[:-1], many)), True)
        self.assertIs(is_equality_paper(TURNING, FIRST, THIRD, ("unlike", more[:-1], ())), False)
        self.assertIs(is_equality_paper(TURNING, FIRST, THIRD, ("unlike", (CARRY,), more)), False)


class OtherValuesTest(unittest.TestCase):
    def test_other_kinds(self):
        others = OTHER_KINDS + ("equal", "unlike", ("equal",), ("unlike",), ("unlike", ()), ("equal", (), ()),
                                ("equal", None), ("equal", "carry"), ("unlike", (), None), ("unlike", None, ()),
                                ("unlike", (), (), ()), (("equal", ()),), ("Equal", ()), (True, ()), ("same", ()))
        for value in others:
            self.assertIs(is_equality_paper(TURNING, SECOND, SECOND, value), False, value)
            self.assertIs(is_equality_paper(TURNING, SECOND, THIRD, value), False, value)

    def test_spoilt_papers(self):
        good = ("equal", (("carry", 1, 1), ("put", 0, 0, 1, 2), ("strike", 1)))
        self.assertIs(is_equality_paper(TURNING, FIRST, SECOND, good), True)
        for path, value in spoilt(good):
            self.assertIs(is_equality_paper(TURNING, FIRST, SECOND, value), False, value)
        good = ("unlike", (("carry", 1, 1),), (("carry", 1, 1), ("carry", 1, -1)))
        self.assertIs(is_equality_paper(TURNING, FIRST, THIRD, good), True)
        for path, value in spoilt(good):
            self.assertIs(is_equality_paper(TURNING, FIRST, THIRD, value), False, value)

    def test_walks_that_are_passed_may_be_of_other_rooms(self):
        for first, second in (((0, 0, ()), (1, 0, ())), ((0, 0, ((0, 1, 0),)), (0, 0, ()))):
            self.assertEqual(last_room(BRIDGE, first) == last_room(BRIDGE, second) and first[0] == second[0], False)
            self.assertIs(is_equality_paper(BRIDGE, first, second, equality_paper(BRIDGE, first, second)), True)
            self.assertIs(is_equality_paper(BRIDGE, first, second, ("equal", ())), False)

    def test_the_moves_can_be_done_by_moved_walk(self):
        with self.assertRaises(NoMove):
            moved_walk(TURNING, FIRST, ("x",))
