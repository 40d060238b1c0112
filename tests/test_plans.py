import random
import unittest

from tests.samples import (
    BRIDGE, EVEN, KLEIN, LONE, MIRROR, OTHER_KINDS, STILL, TURNING, WEBS, ends, least_passing, spoilt, ways)
from tubewords.errors import TooMany
from tubewords.plans import is_plan, plan_crossings, plan_tolls

ONES = (2, ((0, 0, 1, 1), (0, 1, 1, 1)))
ON, BACK = ("cross", 0, 1), ("cross", 0, -1)
LIMIT = 10 ** 1000

# Tie 0 makes 1000 out of 1, tie 1 makes 10 out of 1, tie 2 makes 9 out of 1, tie 3 makes -10 out of 1.
POWERS = (1, ((0, 0, 1, 1000), (0, 0, 1, 10), (0, 0, 1, 9), (0, 0, 1, -10)))
UP = {1000: ("cross", 0, 1), 10: ("cross", 1, 1), 9: ("cross", 2, 1), -10: ("cross", 3, 1)}
DOWN = {number: entry[:2] + (-1,) for number, entry in UP.items()}


def crossings_by_words(plan, number, side=1):
    """The crossings of a line of a small plan."""
    found = []
    for entry in plan[number][1]:
        if entry[0] == "cross":
            found.append(entry[1:])
        else:
            found += crossings_by_words(plan, entry[1], entry[2]) * entry[3]
    return found if side == 1 else [(t, -s) for t, s in reversed(found)]


def some_plan(chance, web, lines, most):
    """A plan of so many lines, each with at most so many crossings."""
    plan = []
    rooms = []
    sizes = []
    for number in range(lines):
        start = room = chance.randrange(web[0])
        entries = []
        size = 0
        for _ in range(chance.randint(0, 5)):
            choices = [("cross", t, s) for t, s in ways(web, room)]
            for other, (begin, end) in enumerate(rooms):
                for side in (1, -1):
                    if (begin, end)[::side][0] == room:
                        times = chance.randint(1, 3) if begin == end else 1
                        choices.append(("line", other, side, times))
            if not choices:
                break
            entry = chance.choice(choices)
            more = 1 if entry[0] == "cross" else sizes[entry[1]] * entry[3]
            if size + more > most:
                continue
            size += more
            entries.append(entry)
            room = ends(web, *entry[1:])[1] if entry[0] == "cross" else rooms[entry[1]][::entry[2]][1]
        plan.append((start, tuple(entries)))
        rooms.append((start, room))
        sizes.append(size)
    return tuple(plan)


class IsPlanTest(unittest.TestCase):
    def yes(self, web, *plan):
        self.assertIs(is_plan(web, plan), True, plan)

    def no(self, web, *plan):
        self.assertIs(is_plan(web, plan), False, plan)

    def test_plans(self):
        self.yes(STILL, (0, ()))
        self.yes(TURNING, (0, (ON, ON, BACK)))
        self.yes(TURNING, (0, (ON,)), (0, (("line", 0, 1, 2), ON, ("line", 0, -1, 3))))
        self.yes(BRIDGE, (0, (ON,)), (0, (("line", 0, 1, 1), BACK)), (1, (("line", 0, -1, 1), ("line", 1, 1, 7))))
        self.yes(LONE, (3, ()), (2, ()), (3, (("line", 0, -1, 1000),)))

    def test_many_plans(self):
        chance = random.Random(71)
        for web in WEBS + (STILL, LONE):
            for _ in range(10):
                plan = some_plan(chance, web, chance.randint(1, 5), 40)
                self.assertIs(is_plan(web, plan), True, (web, plan))

    def test_numbers_of_lines(self):
        self.no(TURNING)
        for many in (1, 2, 499, 500):
            self.yes(TURNING, *[(0, (ON,))] * many)
        for many in (501, 502, 700):
            self.no(TURNING, *[(0, (ON,))] * many)

    def test_numbers_of_entries(self):
        for many in (0, 1, 499, 500):
            self.yes(ONES, (0, (ON,) * many))
        for many in (501, 502, 700):
            self.no(ONES, (0, (ON,) * many))
            self.no(ONES, (0, ()), (0, (ON,) * many), (0, ()))

    def test_times(self):
        for times in (1, 2, 999, 1000):
            self.yes(ONES, (0, (ON,)), (0, (("line", 0, 1, times),)))
        for times in (0, -1, 1001, 10 ** 30):
            self.no(ONES, (0, (ON,)), (0, (("line", 0, 1, times),)))

    def test_numbers_of_named_lines(self):
        for number, right in ((-2, False), (-1, False), (0, True), (1, True), (2, False), (3, False), (99, False)):
            plan = ((0, ()), (0, ()), (0, (("line", number, 1, 1),)), (0, ()))
            self.assertIs(is_plan(STILL, plan), right, number)
        self.no(STILL, (0, (("line", 0, 1, 1),)))
        self.no(STILL, (0, (("line", 1, 1, 1),)), (0, ()))

    def test_rooms(self):
        for room in range(-2, 7):
            self.assertIs(is_plan(LONE, ((room, ()),)), 0 <= room < 4)

    def test_ties_and_sides(self):
        for tie in (-1, 1, 2):
            self.no(TURNING, (0, (("cross", tie, 1),)))
        for side in (0, 2, -2):
            self.no(TURNING, (0, (("cross", 0, side),)))
            self.no(TURNING, (0, ()), (0, (("line", 0, side, 1),)))

    def test_entries_follow_one_another(self):
        self.no(BRIDGE, (1, (ON,)))
        self.no(BRIDGE, (0, (BACK,)))
        self.no(BRIDGE, (0, (ON, ON)))
        self.yes(BRIDGE, (0, (ON, BACK, ON)))
        on = (0, (ON,))
        self.yes(BRIDGE, on, (0, (("line", 0, 1, 1), ("line", 0, -1, 1))))
        self.no(BRIDGE, on, (0, (("line", 0, -1, 1),)))
        self.no(BRIDGE, on, (1, (("line", 0, 1, 1),)))
        self.yes(BRIDGE, on, (1, (("line", 0, -1, 1),)))
        self.no(BRIDGE, on, (0, (("line", 0, 1, 1), ON)))
        self.no(BRIDGE, on, (0, (("line", 0, 1, 1), ("line", 0, 1, 1))))
        self.no(LONE, (1, ()), (0, (("line", 0, 1, 1),)))

    def test_lines_that_are_gone_along_more_than_once_are_closed(self):
        on = (0, (ON,))
        self.no(BRIDGE, on, (0, (("line", 0, 1, 2),)))
        self.no(BRIDGE, on, (1, (("line", 0, -1, 2),)))
        self.yes(BRIDGE, on, (0, (("line", 0, 1, 1),)))
        self.yes(BRIDGE, (0, (ON, BACK)), (0, (("line", 0, 1, 2), ("line", 0, -1, 1000))))

    def test_tolls_of_lines(self):
        for ties, first in ((UP, 10), (DOWN, 10), (UP, -10), (DOWN, -10)):
            self.yes(POWERS, (0, (ties[1000],) * 333))
            self.yes(POWERS, (0, (ties[1000],) * 333 + (ties[9],)))
            self.no(POWERS, (0, (ties[1000],) * 333 + (ties[first],)))
            self.yes(POWERS, (0, (ties[1000],) * 332 + (ties[first],) * 3))
            self.no(POWERS, (0, (ties[1000],) * 334))
            self.no(POWERS, (0, ()), (0, (ties[1000],) * 334), (0, ()))

    def test_tolls_of_first_entries(self):
        self.yes(POWERS, (0, (UP[1000],) * 333 + (DOWN[1000],) * 100))
        self.no(POWERS, (0, (UP[1000],) * 333 + (UP[10],) + (DOWN[1000],) * 100))
        self.no(POWERS, (0, (UP[1000],) * 333 + (UP[-10],) + (DOWN[1000],) * 100))
        self.yes(POWERS, (0, (UP[1000],) * 333 + (UP[9],) + (DOWN[9],) + (DOWN[1000],) * 100))
        self.yes(POWERS, (0, (DOWN[1000],) * 333 + (UP[1000],) * 167))

    def test_tolls_of_entries_with_all_their_times(self):
        ten = (0, (UP[10],))
        less = (0, (UP[-10],))
        for line, side in ((ten, 1), (ten, -1), (less, 1), (less, -1)):
            self.yes(POWERS, line, (0, (("line", 0, side, 999),)))
            self.no(POWERS, line, (0, (("line", 0, side, 1000),)))
        # The crossings before bring so much that the first entries stay small, with the entry itself too great.
        up = (UP[1000],) * 167
        self.yes(POWERS, ten, (0, up + (("line", 0, -1, 999),)))
        self.no(POWERS, ten, (0, up + (("line", 0, -1, 1000),)))
        self.yes(POWERS, (0, (UP[1000], UP[10])), (0, up + (("line", 0, -1, 249),)))
        self.no(POWERS, (0, (UP[1000], UP[10])), (0, up + (("line", 0, -1, 250),)))
        self.no(POWERS, (0, (UP[1000], DOWN[9])), (0, up + (("line", 0, -1, 334),)))

    def test_tolls_far_beyond_the_bound(self):
        for entry in (UP[1000], DOWN[1000], UP[-10], DOWN[-10]):
            for side in (1, -1):
                self.no(POWERS, (0, (entry,)), (0, (("line", 0, side, 1000),)))
                self.no(POWERS, (0, (entry,) * 333), (0, (("line", 0, side, 1000),)))
        self.no(TURNING, (0, (ON,)), (0, (("line", 0, 1, 700),)), (0, (("line", 1, 1, 1000),)))

    def test_other_kinds(self):
        for value in OTHER_KINDS + (0, "line", ((),), ((0,),), ((0, (), ()),), ((0, 0),), ((0, None),), ((0, "ab"),),
                                    (("0", ()),), ((0, ((),)),), ((0, (("cross",),)),), ((0, (("cross", 0),)),),
                                    ((0, (("cross", 0, 1, 1),)),), ((0, ("cross", 0, 1)),), ((0, (None,)),),
                                    ((0, (("Cross", 0, 1),)),), (0, ()),
                                    ((0, ()), (0, (("line", 0, 1),))), ((0, ()), (0, (("line", 0, 1, 1, 1),))),
                                    ((0, ()), (0, (("cross", 0, 1, 1),))), ((0, ()), (0, (("lines", 0, 1, 1),)))):
            self.assertIs(is_plan(TURNING, value), False, value)

    def test_true_and_false_are_no_integers(self):
        web = (2, ((0, 1, 1, 1), (1, 1, 1, 1)))
        self.yes(web, (1, (("cross", 1, 1),)), (1, ()), (1, (("line", 1, 1, 1),)))
        for plan in (((True, ()),), ((False, ()),), ((1, (("cross", True, 1),)),), ((1, (("cross", 1, True),)),),
                     ((0, (("cross", False, 1),)),), ((1, ()), (1, ()), (1, (("line", True, 1, 1),))),
                     ((1, ()), (1, (("line", False, 1, 1),))), ((1, ()), (1, (("line", 0, True, 1),))),
                     ((1, ()), (1, (("line", 0, 1, True),)))):
            self.no(web, *plan)

    def test_spoilt_plans(self):
        plan = ((0, (("cross", 0, 1), ("cross", 0, -1))), (0, (("line", 0, -1, 3),)))
        for path, value in spoilt(plan):
            longer = path in ((), (0, 1), (1, 1)) and isinstance(value, tuple) and value != ()
            if longer and path == () and value[-1] is None:
                longer = False
            if longer and path == (0, 1):
                # With a crossing more or less the line is open, so that it cannot be gone along three times.
                longer = False
            if longer and path == (1, 1) and not isinstance(value[1][1], tuple):
                longer = False
            self.assertIs(is_plan(BRIDGE, value), longer, (path, value))


class TollsTest(unittest.TestCase):
    def test_tolls(self):
        self.assertEqual(plan_tolls(STILL, ((0, ()),)), ((0, 0, 1, 1),))
        self.assertEqual(plan_tolls(TURNING, ((0, (ON,)), (0, (BACK,)))), ((0, 0, 2, 3), (0, 0, 3, 2)))
        self.assertEqual(plan_tolls(TURNING, ((0, (ON, BACK)), (0, (ON, ON)))), ((0, 0, 2, 2), (0, 0, 4, 9)))
        self.assertEqual(plan_tolls(BRIDGE, ((0, (ON,)), (1, (("line", 0, -1, 1),)))), ((0, 1, 2, 3), (1, 0, 3, 2)))
        self.assertEqual(plan_tolls(EVEN, ((0, (ON,)), (0, (("line", 0, 1, 1000),)))), ((0, 0, 2, 2),) * 2)
        self.assertEqual(plan_tolls(TURNING, ((0, (ON,)), (0, (("line", 0, 1, 3),)))), ((0, 0, 2, 3), (0, 0, 8, 27)))

    def test_signs(self):
        self.assertEqual(plan_tolls(MIRROR, ((0, (ON,)), (0, (BACK,)), (0, (ON, ON)))),
                         ((0, 0, 2, -3), (0, 0, 3, -2), (0, 0, 4, 9)))
        self.assertEqual(plan_tolls((1, ((0, 0, -2, -3),)), ((0, (ON,)),)), ((0, 0, 2, 3),))
        self.assertEqual(plan_tolls(KLEIN, ((0, (ON,)), (0, (("line", 0, 1, 2),)), (0, (("line", 0, 1, 999),)))),
                         ((0, 0, 1, -1), (0, 0, 1, 1), (0, 0, 1, -1)))
        line = (0, (ON,))
        for times in (1, 2, 3, 4):
            for side, m, k in ((1, 2, -3), (-1, 3, -2)):
                told = plan_tolls(MIRROR, (line, (0, (("line", 0, side, times),))))
                self.assertEqual(told[1], (0, 0, m ** times, k ** times))

    def test_many_plans(self):
        chance = random.Random(72)
        for web in WEBS + (STILL, LONE):
            for _ in range(12):
                plan = some_plan(chance, web, chance.randint(1, 5), 7)
                told = plan_tolls(web, plan)
                self.assertEqual(len(told), len(plan))
                for number, (begin, end, m, k) in enumerate(told):
                    crossings = crossings_by_words(plan, number)
                    self.assertEqual(begin, plan[number][0])
                    self.assertEqual(end, ends(web, *crossings[-1])[1] if crossings else begin)
                    if m < 5000:
                        self.assertEqual((m, k), least_passing(web, crossings), (web, plan, number))

    def test_parts_that_both_numbers_share(self):
        web = (1, ((0, 0, 4, 6), (0, 0, 12, -18)))
        for tie, base in ((0, (4, 6)), (1, (12, -18))):
            common = 2 if tie == 0 else 6
            for times in (1, 2, 3, 4):
                plan = ((0, (("cross", tie, 1),)), (0, (("line", 0, 1, times),)))
                self.assertEqual(plan_tolls(web, plan)[1], (0, 0) + least_passing(web, [(tie, 1)] * times))
                self.assertEqual(plan_tolls(web, plan)[1][2:], (base[0] * (base[0] // common) ** (times - 1),
                                                                base[1] * (base[1] // common) ** (times - 1)))

    def test_great_tolls(self):
        plan = ((0, (UP[1000],) * 333 + (UP[9],)), (0, (("line", 0, -1, 1),)), (0, (UP[10],)), (0, (("line", 2, 1, 999),)))
        self.assertEqual(plan_tolls(POWERS, plan), ((0, 0, 1, 9 * 10 ** 999), (0, 0, 9 * 10 ** 999, 1), (0, 0, 1, 10),
                                                    (0, 0, 1, 10 ** 999)))

    def test_very_many_steps(self):
        plan = ((0, (ON,)),) + tuple((0, (("line", n, -1, 999),)) for n in range(499))
        self.assertIs(is_plan(KLEIN, plan), True)
        self.assertEqual(plan_tolls(KLEIN, plan), ((0, 0, 1, -1),) * 500)
        wide = ((0, (ON,)),) + ((0, (("line", 0, 1, 1000),) * 500),) * 2
        self.assertIs(is_plan(ONES, wide), True)
        self.assertEqual(plan_tolls(ONES, wide), ((0, 0, 1, 1),) * 3)


class CrossingsTest(unittest.TestCase):
    def test_crossings(self):
        self.assertEqual(plan_crossings(STILL, ((0, ()),)), ())
        self.assertEqual(plan_crossings(TURNING, ((0, (ON, ON, BACK)),)), ((0, 1), (0, 1), (0, -1)))
        web = (1, ((0, 0, 1, 1), (0, 0, 1, 1)))
        plan = ((0, (("cross", 0, 1), ("cross", 1, 1))), (0, (("line", 0, 1, 2), ("line", 0, -1, 2), ("cross", 0, 1))))
        there, back = ((0, 1), (1, 1)), ((1, -1), (0, -1))
        self.assertEqual(plan_crossings(web, plan), there * 2 + back * 2 + ((0, 1),))
        plan += ((0, (("cross", 1, -1), ("line", 1, -1, 1))),)
        self.assertEqual(plan_crossings(web, plan), ((1, -1), (0, -1)) + there * 2 + back * 2)

    def test_the_last_line_counts(self):
        self.assertEqual(plan_crossings(TURNING, ((0, (ON,)), (0, ()))), ())
        self.assertEqual(plan_crossings(TURNING, ((0, (ON,)), (0, (BACK, BACK)))), ((0, -1), (0, -1)))

    def test_many_plans(self):
        chance = random.Random(73)
        for web in WEBS + (STILL, LONE):
            for _ in range(15):
                plan = some_plan(chance, web, chance.randint(1, 6), 60)
                self.assertEqual(plan_crossings(web, plan), tuple(crossings_by_words(plan, len(plan) - 1)))

    def test_too_many_crossings(self):
        use = ("line", 0, 1, 1000)
        self.assertEqual(plan_crossings(ONES, ((0, (ON,)), (0, (use, use)))), ((0, 1),) * 2000)
        for entries in ((use, use, ON), (use, use, use), (("line", 0, -1, 1000), BACK, use), (use,) * 500):
            with self.assertRaises(TooMany) as caught:
                plan_crossings(ONES, ((0, (ON,)), (0, entries)))
            self.assertEqual(caught.exception.what, "crossings")

    def test_lines_of_very_many_crossings(self):
        plan = ((0, (ON,)),) + tuple((0, (("line", n, 1, 1000),)) for n in range(498))
        with self.assertRaises(TooMany):
            plan_crossings(ONES, plan)
        self.assertEqual(plan_crossings(ONES, plan + ((0, (("line", 1, -1, 2),)),)), ((0, -1),) * 2000)
        self.assertEqual(plan_crossings(ONES, plan + ((0, (ON, BACK)),)), ((0, 1), (0, -1)))

    def test_lines_in_lines_500_deep(self):
        plan = ((0, (ON, ("cross", 1, 1))),) + tuple((0, (("line", n, 1, 1),)) for n in range(499))
        self.assertIs(is_plan(ONES, plan), True)
        self.assertEqual(plan_crossings(ONES, plan), ((0, 1), (1, 1)))
        plan = ((0, (ON,)),) + tuple((0, (("line", n, -1, 1),)) for n in range(499))
        self.assertEqual(plan_crossings(ONES, plan), ((0, -1),))
        empty = ((0, ()),) + tuple((0, (("line", n, 1, 1000),)) for n in range(499))
        self.assertEqual(plan_crossings(ONES, empty), ())
