import unittest

from tests.samples import ALL_WEBS, FULL, LONE, OTHER_KINDS, PIECES, STILL, TRIANGLE, ends, spoilt, ways
from tubewords.webs import ends_of, is_web, piece_of, pieces_of, ways_out


class IsWebTest(unittest.TestCase):
    def test_webs(self):
        for web in ALL_WEBS:
            self.assertIs(is_web(web), True, web)

    def test_numbers_of_rooms(self):
        for rooms in (1, 2, 3, 4, 5):
            self.assertIs(is_web((rooms, ())), True, rooms)
        for rooms in (0, -1, 6, 7, 1000):
            self.assertIs(is_web((rooms, ())), False, rooms)

    def test_numbers_of_ties(self):
        tie = (0, 0, 1, 1)
        for many in range(8):
            self.assertIs(is_web((1, (tie,) * many)), True, many)
        for many in (8, 9, 60):
            self.assertIs(is_web((1, (tie,) * many)), False, many)

    def test_rooms_of_ties(self):
        for rooms in range(1, 6):
            for at in range(-3, 8):
                right = 0 <= at < rooms
                self.assertIs(is_web((rooms, ((at, 0, 1, 1),))), right, (rooms, at))
                self.assertIs(is_web((rooms, ((0, at, 1, 1),))), right, (rooms, at))

    def test_ends(self):
        for end in (1, -1, 2, -2, 999, -999, 1000, -1000):
            self.assertIs(is_web((2, ((0, 1, end, 1),))), True, end)
            self.assertIs(is_web((2, ((0, 1, 1, end),))), True, end)
        for end in (0, 1001, -1001, 5000, -10 ** 30):
            self.assertIs(is_web((2, ((0, 1, end, 1),))), False, end)
            self.assertIs(is_web((2, ((0, 1, 1, end),))), False, end)

    def test_each_tie_is_looked_at(self):
        good = (0, 1, 2, 3)
        for at in range(7):
            ties = [good] * 7
            ties[at] = (0, 2, 2, 3)
            self.assertIs(is_web((2, tuple(ties))), False)
            ties[at] = (0, 1, 2, 0)
            self.assertIs(is_web((2, tuple(ties))), False)

    def test_other_kinds(self):
        for value in OTHER_KINDS + (0, 1, -5, (1, (), ()), (1, 1), ("1", ()), ((), 1), (1, ((),)), (1, "ab")):
            self.assertIs(is_web(value), False, value)

    def test_true_and_false_are_no_integers(self):
        self.assertIs(is_web((True, ())), False)
        for tie in ((False, 0, 1, 1), (0, False, 1, 1), (0, 0, True, 1), (0, 0, 1, True), (True, 0, 1, 1)):
            self.assertIs(is_web((2, (tie,))), False, tie)

    def test_spoilt_webs(self):
        web = (2, ((0, 1, 2, 3), (1, 1, 4, -1)))
        for path, value in spoilt(web):
            right = isinstance(value, tuple) and len(value) == 2 and path == (1,) and isinstance(value[1], tuple)
            self.assertIs(is_web(value), right, value)


class TiesTest(unittest.TestCase):
    def test_ends_of(self):
        web = (3, ((0, 2, 5, -7), (1, 1, 2, 3)))
        self.assertEqual(ends_of(web, 0, 1), (0, 2, 5, -7))
        self.assertEqual(ends_of(web, 0, -1), (2, 0, -7, 5))
        self.assertEqual(ends_of(web, 1, 1), (1, 1, 2, 3))
        self.assertEqual(ends_of(web, 1, -1), (1, 1, 3, 2))

    def test_ends_of_all_ties(self):
        for web in ALL_WEBS:
            for tie in range(len(web[1])):
                for side in (1, -1):
                    self.assertEqual(ends_of(web, tie, side), ends(web, tie, side))

    def test_ways_out(self):
        self.assertEqual(ways_out(STILL, 0), ())
        self.assertEqual(ways_out(TRIANGLE, 0), ((0, 1), (2, -1)))
        self.assertEqual(ways_out(TRIANGLE, 1), ((0, -1), (1, 1), (3, 1), (3, -1)))
        self.assertEqual(ways_out(TRIANGLE, 2), ((1, -1), (2, 1)))
        self.assertEqual(ways_out((2, ((1, 0, 1, 1), (1, 1, 1, 1), (0, 0, 1, 1))), 1), ((0, 1), (1, 1), (1, -1)))

    def test_ways_out_of_all_rooms(self):
        for web in ALL_WEBS:
            for room in range(web[0]):
                self.assertEqual(ways_out(web, room), tuple(ways(web, room)))


class PiecesTest(unittest.TestCase):
    def test_piece_of(self):
        self.assertEqual([piece_of(PIECES, room) for room in range(5)], [(0,), (1, 3), (2,), (1, 3), (4,)])
        self.assertEqual(piece_of(STILL, 0), (0,))
        for room in range(5):
            self.assertEqual(piece_of(FULL, room), (0, 1, 2, 3, 4))

    def test_ties_are_followed_on_both_sides(self):
        web = (5, ((4, 3, 1, 1), (2, 3, 1, 1), (2, 0, 1, 1)))
        for room in (0, 2, 3, 4):
            self.assertEqual(piece_of(web, room), (0, 2, 3, 4))
        self.assertEqual(piece_of(web, 1), (1,))
        self.assertEqual(pieces_of(web), ((0, 2, 3, 4), (1,)))

    def test_pieces_of(self):
        self.assertEqual(pieces_of(PIECES), ((0,), (1, 3), (2,), (4,)))
        self.assertEqual(pieces_of(LONE), ((0,), (1,), (2,), (3,)))
        self.assertEqual(pieces_of(FULL), ((0, 1, 2, 3, 4),))
        self.assertEqual(pieces_of(STILL), ((0,),))
        self.assertEqual(pieces_of((5, ((4, 0, 2, 2), (3, 1, 2, 2)))), ((0, 4), (1, 3), (2,)))

    def test_pieces_hold_each_room_once(self):
        for web in ALL_WEBS:
            pieces = pieces_of(web)
            self.assertEqual(sorted(room for piece in pieces for room in piece), list(range(web[0])))
            for piece in pieces:
                for room in piece:
                    self.assertEqual(piece_of(web, room), piece)
