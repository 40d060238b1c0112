import random
import unittest

from tests.samples import EVEN, KLEIN, LONE, TRIANGLE, ends, ways
from tests.test_plans import crossings_by_words
from tubewords.planmaking import plan_of_crossings, plan_of_lines
from tubewords.plans import is_plan

ON, GO_BACK = ("cross", 0, 1), ("cross", 0, -1)


def use(number, side=1):
    return ("line", number, side, 1)


def struck(crossings):
    """The crossings without those that go there and at once back."""
    kept = []
    for t, s in crossings:
        if kept and kept[-1] == (t, -s):
            kept.pop()
        else:
            kept.append((t, s))
    return kept


class PlanOfCrossingsTest(unittest.TestCase):
    def test_plans(self):
        self.assertEqual(plan_of_crossings((2, 0, ())), ((2, ()),))
        self.assertEqual(plan_of_crossings((0, 3, ((0, 1, 5), (1, -1, 0)))), ((0, (("cross", 0, 1), ("cross", 1, -1))),))
        self.assertIs(is_plan(LONE, plan_of_crossings((2, 0, ()))), True)


class PlanOfLinesTest(unittest.TestCase):
    def check(self, web, lines, room, entries):
        """Checks that a plan goes along the same crossings as the entries, but for those there and back."""
        plan = plan_of_lines(web, lines, room, entries)
        self.assertIs(is_plan(web, plan), True, plan)
        self.assertEqual(plan[-1][0], room)
        wanted = crossings_by_words(tuple((v, tuple(row)) for v, row in lines) + ((room, tuple(entries)),), len(lines))
        self.assertEqual(struck(crossings_by_words(plan, len(plan) - 1)), struck(wanted))
        return plan

    def test_short_lines_are_written_out(self):
        lines = [(0, [ON]), (0, [use(0), use(0, -1), use(0)]), (0, [use(1), use(0, -1), use(0, -1)])]
        self.assertEqual(self.check(EVEN, lines, 0, [use(2), use(2, -1), use(1, -1)]), ((0, (GO_BACK,)),))
        self.assertEqual(self.check(EVEN, lines, 0, []), ((0, ()),))

    def test_long_lines_are_kept_and_those_without_use_are_not(self):
        lines = [(0, [ON] * 20), (0, [GO_BACK] * 30), (0, [use(0)] * 8), (0, [use(1)] * 8)]
        plan = self.check(EVEN, lines, 0, [use(2), use(2), ON])
        self.assertEqual(len(plan), 3)
        self.assertEqual(len(self.check(EVEN, lines, 0, [use(2), use(3, -1)])), 5)
        self.assertEqual(len(self.check(EVEN, lines, 0, [ON])), 1)

    def test_lines_of_500_and_more_entries(self):
        lines = [(0, [ON] * 20)]
        for many, size in ((499, 2), (500, 2), (501, 4), (1000, 4), (1001, 5), (1500, 5), (20000, 42)):
            plan = self.check(EVEN, lines, 0, [use(0)] * many)
            self.assertEqual(len(plan), size)
            self.assertEqual(max(len(entries) for _, entries in plan), min(many, 500))
        plan = self.check(EVEN, [(0, [ON, ON, ON] * 400)], 0, [use(0), use(0), GO_BACK])
        self.assertEqual([len(entries) for _, entries in plan], [500, 500, 200, 3, 3])

    def test_long_lines_between_rooms(self):
        row, room = [], 0
        chance = random.Random(701)
        for _ in range(1203):
            t, s = chance.choice([way for way in ways(TRIANGLE, room) if not row or ("cross", way[0], -way[1]) != row[-1]])
            row.append(("cross", t, s))
            room = ends(TRIANGLE, t, s)[1]
        web = (3, tuple((v, w, 1, 1) for v, w, _, _ in TRIANGLE[1]))
        for entries in ([use(0)], [use(0), use(0, -1)], []):
            self.check(web, [(0, row)], 0, entries)
        self.check(web, [(0, row)], room, [use(0, -1)])
        self.check(web, [(0, row), (room, [use(0, -1)] + row)], room, [use(1), use(1, -1)])

    def test_many_long_lines_between_rooms(self):
        web = (2, ((0, 1, 1, 1), (0, 1, 1, 1)))
        there = [("cross", 0, 1), ("cross", 1, -1)] * 600 + [("cross", 0, 1)]
        back = [("cross", 1, -1), ("cross", 0, 1)] * 600 + [("cross", 1, -1)]
        short = [("cross", 0, 1), ("cross", 1, -1)] * 10 + [("cross", 0, 1)]
        lines = [(0, there), (1, back), (0, short)]
        for first, second in ([use(0), use(1)], [use(2), use(0, -1)], [use(2), use(1)], [use(0), use(2, -1)]):
            for ahead in ([], [("cross", 0, 1), ("cross", 1, -1)]):
                self.check(web, lines, 0, ahead + [first, second] * 300)
            self.check(web, lines, 1, [("cross", 1, -1)] + [first, second] * 300)
            self.check(web, lines, 1, [second, first] * 300 + [second])

    def test_many_long_lines_in_a_ring_of_rooms(self):
        web = (3, ((0, 1, 1, 1), (1, 2, 1, 1), (2, 0, 1, 1)) * 2)
        there = [("cross", i % 3, 1) for i in range(1202)]
        back = [("cross", 3 + (1201 - i) % 3, -1) for i in range(1202)]
        lines = [(0, there), (2, back)]
        self.check(web, lines, 0, [use(0), use(1)] * 300)
        self.check(web, lines, 2, [use(1), use(0)] * 300 + [use(1)])
        self.check(web, lines, 2, [("cross", 2, 1)] + [use(0), use(1)] * 300)

    def test_many_lines(self):
        chance = random.Random(702)
        for _ in range(40):
            lines = []
            for number in range(chance.randint(0, 7)):
                row = [chance.choice((ON, GO_BACK)) for _ in range(chance.randint(0, 9))]
                if lines:
                    row += [use(chance.randrange(number), chance.choice((1, -1))) for _ in range(chance.randint(0, 3))]
                chance.shuffle(row)
                lines.append((0, row))
            entries = [use(chance.randrange(len(lines)), chance.choice((1, -1))) for _ in range(3)] if lines else [ON]
            self.check(KLEIN, lines, 0, entries)
