import random
import unittest

from tests.samples import (
    BOUND, BRIDGE, DOUBLING, MIRROR, MOST, OTHER_KINDS, TRIANGLE, TURNING, WEBS, ends, last_room, numbers, same, spoilt,
    walks_in, ways)
from tubewords.errors import NoMove
from tubewords.walks import is_walk, moved_walk

SIXTY = (0, 0, ((0, 1, 1),) * 60)


def moves_of(web, walk, chance):
    """Some moves that can be done."""
    moves = []
    rooms = [walk[0]] + [ends(web, t, s)[1] for t, s, _ in walk[2]]
    for i in range(1, len(walk[2]) + 1):
        moves.append(("carry", i, chance.randint(-3, 3)))
    for i, room in enumerate(rooms):
        for t, s in ways(web, room):
            moves.append(("put", i, t, s, chance.randint(-5, 5)))
    for i in range(1, len(walk[2])):
        (t, s, k), (u, z, _) = walk[2][i - 1], walk[2][i]
        if t == u and s == -z and k == 0:
            moves.append(("strike", i))
    return moves


def taking_back(walk, move):
    """The move that takes a move back, by [9]."""
    if move[0] == "carry":
        return ("carry", move[1], -move[2])
    if move[0] == "strike":
        i = move[1]
        return ("put", i - 1) + walk[2][i - 1][:2] + (numbers(walk)[i - 1],)
    return ("strike", move[1] + 1)


class MovesTest(unittest.TestCase):
    def refused(self, web, walk, moves, number=0):
        with self.assertRaises(NoMove, msg=moves) as caught:
            moved_walk(web, walk, moves)
        self.assertEqual(caught.exception.number, number)

    def test_no_moves(self):
        self.assertEqual(moved_walk(TURNING, SIXTY, ()), SIXTY)

    def test_carry(self):
        walk = (0, 5, ((0, 1, 1), (0, -1, 10)))
        self.assertEqual(moved_walk(TURNING, walk, (("carry", 1, 2),)), (0, 1, ((0, 1, 7), (0, -1, 10))))
        self.assertEqual(moved_walk(TURNING, walk, (("carry", 1, -1),)), (0, 7, ((0, 1, -2), (0, -1, 10))))
        self.assertEqual(moved_walk(TURNING, walk, (("carry", 2, 1),)), (0, 5, ((0, 1, -2), (0, -1, 12))))
        self.assertEqual(moved_walk(TURNING, walk, (("carry", 2, 0),)), walk)
        self.assertEqual(moved_walk(MIRROR, (0, 1, ((0, 1, 0),)), (("carry", 1, 2),)), (0, 5, ((0, 1, 6),)))

    def test_strike(self):
        walk = (0, 5, ((0, 1, 0), (0, -1, 10), (0, -1, 0), (0, 1, 4)))
        self.assertEqual(moved_walk(TURNING, walk, (("strike", 1),)), (0, 15, ((0, -1, 0), (0, 1, 4))))
        self.assertEqual(moved_walk(TURNING, walk, (("strike", 3),)), (0, 5, ((0, 1, 0), (0, -1, 14))))
        self.assertEqual(moved_walk(TURNING, walk, (("strike", 3), ("strike", 1))), (0, 19, ()))
        self.refused(TURNING, walk, (("strike", 2),))

    def test_put(self):
        walk = (0, 5, ((0, 1, 7),))
        self.assertEqual(moved_walk(BRIDGE, walk, (("put", 0, 0, 1, 2),)), (0, 2, ((0, 1, 0), (0, -1, 3), (0, 1, 7))))
        self.assertEqual(moved_walk(BRIDGE, walk, (("put", 1, 0, -1, 9),)),
                         (0, 5, ((0, 1, 9), (0, -1, 0), (0, 1, -2))))
        self.assertEqual(moved_walk(TURNING, (0, 4, ()), (("put", 0, 0, -1, -3),)), (0, -3, ((0, -1, 0), (0, 1, 7))))
        self.refused(BRIDGE, walk, (("put", 0, 0, -1, 2),))
        self.refused(BRIDGE, walk, (("put", 1, 0, 1, 2),))

    def test_put_in_between(self):
        walk = (0, 1, ((0, 1, 2), (1, 1, 3), (2, 1, 4)))
        self.assertEqual(moved_walk(TRIANGLE, walk, (("put", 1, 3, 1, 5),)),
                         (0, 1, ((0, 1, 5), (3, 1, 0), (3, -1, -3), (1, 1, 3), (2, 1, 4))))
        self.assertEqual(moved_walk(TRIANGLE, walk, (("put", 2, 2, 1, 5),)),
                         (0, 1, ((0, 1, 2), (1, 1, 5), (2, 1, 0), (2, -1, -2), (2, 1, 4))))
        self.refused(TRIANGLE, walk, (("put", 2, 3, 1, 5),))

    def test_numbers_of_moves(self):
        walk = (0, 5, ((0, 1, 0), (0, -1, 10)))
        for i in (-2, -1, 0, 3, 4, 10 ** 30):
            self.refused(TURNING, walk, (("carry", i, 0),))
        for i in (-2, -1, 0, 2, 3, 10 ** 30):
            self.refused(TURNING, walk, (("strike", i),))
        for i in (-3, -2, -1, 3, 4, 10 ** 30):
            self.refused(TURNING, walk, (("put", i, 0, 1, 0),))
        for i in (0, 1, 2):
            self.assertEqual(len(moved_walk(TURNING, walk, (("put", i, 0, 1, 0),))[2]), 4)
        # A walk has no end that meets its beginning.
        self.refused(TURNING, (0, 0, ((0, 1, 5), (0, -1, 0))), (("strike", 0),))
        self.refused(TURNING, (0, 0, ((0, 1, 0), (0, -1, 0))), (("strike", 2),))
        self.refused(TURNING, (0, 5, ()), (("carry", 1, 0),))
        self.refused(TURNING, (0, 5, ()), (("strike", 1),))
        self.refused(TURNING, (0, 5, ((0, 1, 0),)), (("strike", 1),))

    def test_strike_wants_opposite_sides_and_one_tie(self):
        self.refused(TURNING, (0, 5, ((0, 1, 0), (0, 1, 10))), (("strike", 1),))
        web = (2, ((0, 1, 2, 3), (0, 1, 2, 3)))
        self.refused(web, (0, 5, ((0, 1, 0), (1, -1, 10))), (("strike", 1),))
        self.assertEqual(moved_walk(web, (0, 5, ((1, 1, 0), (1, -1, 10))), (("strike", 1),)), (0, 15, ()))
        for turns in (1, -1, 3, 6):
            self.refused(web, (0, 5, ((1, 1, turns), (1, -1, 10))), (("strike", 1),))

    def test_put_wants_a_tie_and_a_side(self):
        for tie, side in ((1, 1), (-1, 1), (7, 1), (0, 0), (0, 2), (0, -2)):
            self.refused(TURNING, (0, 5, ()), (("put", 0, tie, side, 0),))

    def test_number_of_the_first_move_that_cannot_be_done(self):
        walk = (0, 4, ((0, 1, 0), (0, -1, 0)))
        good = ("carry", 1, 1)
        self.refused(TURNING, walk, (good, "x", None), 1)
        self.refused(TURNING, walk, (good,) * 7 + (("carry", 3, 1), "x"), 7)
        self.refused(TURNING, walk, (("strike", 1), ("strike", 1)), 1)
        self.refused(TURNING, walk, (good,) * 1999 + (("carry", 3, 1),), 1999)
        self.assertEqual(moved_walk(TURNING, walk, (good, ("carry", 1, -1)) * 1000), walk)

    def test_moves_that_lead_to_no_walk(self):
        self.refused(TURNING, SIXTY, (("put", 4, 0, 1, 0),))
        self.refused(TURNING, (0, 0, ((0, 1, 1),) * 59), (("put", 4, 0, 1, 0),))
        self.assertEqual(len(moved_walk(TURNING, (0, 0, ((0, 1, 1),) * 58), (("put", 58, 0, 1, 0),))[2]), 60)
        web = (1, ((0, 0, 1, 1),))
        for sign in (1, -1):
            self.assertEqual(moved_walk(web, (0, 0, ((0, 1, 0),)), (("carry", 1, sign * MOST),)),
                             (0, -sign * MOST, ((0, 1, sign * MOST),)))
            self.refused(web, (0, 0, ((0, 1, 0),)), (("carry", 1, sign * BOUND),))
            self.refused(web, (0, sign, ((0, 1, 0),)), (("carry", 1, -sign * MOST),))
            self.refused(web, (0, 0, ((0, 1, sign),)), (("carry", 1, sign * MOST),))
            self.refused(web, (0, sign * MOST, ((0, 1, 0), (0, -1, sign))), (("strike", 1),))
            self.assertEqual(moved_walk(web, (0, sign * MOST, ((0, 1, 0), (0, -1, 0))), (("strike", 1),)),
                             (0, sign * MOST, ()))
            self.refused(web, (0, 0, ()), (("put", 0, 0, 1, sign * BOUND),))
            self.refused(web, (0, sign, ()), (("put", 0, 0, 1, -sign * MOST),))
            self.assertEqual(moved_walk(web, (0, 0, ()), (("put", 0, 0, 1, sign * MOST),)),
                             (0, sign * MOST, ((0, 1, 0), (0, -1, -sign * MOST))))

    def test_each_walk_on_the_way_is_looked_at(self):
        web = (1, ((0, 0, 1, 1),))
        self.refused(web, (0, 0, ((0, 1, 0),)), (("carry", 1, BOUND), ("carry", 1, -BOUND)))
        self.refused(web, (0, 0, ((0, 1, 0),) * 60), (("carry", 1, 1), ("put", 0, 0, 1, 0), ("strike", 1)), 1)

    def test_other_kinds(self):
        walk = (0, 4, ((0, 1, 0), (0, -1, 0)))
        for move in OTHER_KINDS + (0, 1, ("carry",), ("carry", 1), ("carry", 1, 1, 1), ("strike",), ("strike", 1, 1),
                                   ("put", 0, 0, 1), ("put", 0, 0, 1, 1, 1), ("turn", 1, 1), ("carry", (1,), 1),
                                   (("carry", 1, 1),), ("Carry", 1, 1), (None, 1, 1), ("strike", "1")):
            self.refused(TURNING, walk, (move,))

    def test_true_and_false_are_no_integers(self):
        walk = (0, 4, ((0, 1, 0), (0, -1, 0)))
        for move in (("carry", True, 1), ("carry", 1, True), ("carry", 1, False), ("strike", True),
                     ("put", True, 0, 1, 1), ("put", False, 0, 1, 1), ("put", 0, False, 1, 1), ("put", 0, 0, True, 1),
                     ("put", 0, 0, 1, True), ("put", 0, 0, 1, False)):
            self.refused(TURNING, walk, (move,))

    def test_spoilt_moves(self):
        walk = (0, 4, ((0, 1, 0), (0, -1, 0)))
        for move in (("carry", 1, 1), ("strike", 1), ("put", 1, 0, 1, 5)):
            self.assertTrue(is_walk(TURNING, moved_walk(TURNING, walk, (move,))))
            for path, value in spoilt(move):
                self.refused(TURNING, walk, (move, value) if move[0] == "carry" else (value,), move[0] == "carry")

    def test_moves_lead_to_equal_walks_and_are_taken_back(self):
        chance = random.Random(7)
        for web in WEBS:
            for walk in walks_in(web, 8, 6, 5):
                for move in moves_of(web, walk, chance):
                    told = moved_walk(web, walk, (move,))
                    self.assertTrue(is_walk(web, told))
                    self.assertTrue(same(web, walk, told), (web, walk, move, told))
                    self.assertEqual((told[0], last_room(web, told)), (walk[0], last_room(web, walk)))
                    self.assertEqual(moved_walk(web, walk, (move, taking_back(walk, move))), walk)

    def test_rows_of_moves_go_one_after_the_other(self):
        chance = random.Random(9)
        for web in (TURNING, DOUBLING, TRIANGLE):
            for walk in walks_in(web, 10, 5, 4):
                moves = []
                at = walk
                for _ in range(6):
                    moves.append(chance.choice(moves_of(web, at, chance)) if moves_of(web, at, chance) else None)
                    if moves[-1] is None:
                        moves.pop()
                        break
                    at = moved_walk(web, at, (moves[-1],))
                self.assertEqual(moved_walk(web, walk, tuple(moves)), at)
