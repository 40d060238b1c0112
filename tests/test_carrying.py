import random
import unittest

from tests.changesamples import back_by_words, carried_by_words, changed_by_words, some_changes
from tests.samples import (
    ALL_WEBS, BOUND, OTHER_KINDS, STILL, TURNING, back, joined, last_room, plain_by_words, same, some_closed, some_walk)
from tests.spansamples import some_given, some_web
from tubewords.carrying import carried_room, carried_walk, taken_back
from tubewords.changes import changed_web
from tubewords.errors import NoMove, TooGreat, TooMany
from tubewords.spans import free_rank, in_span, span_index
from tubewords.turned import goes_on
from tubewords.walks import is_walk

CHAIN = (3, ((0, 1, 2, 3), (1, 2, 6, 5), (1, 1, 3, -3)))
LOOPS = (1, ((0, 0, 2, 4), (0, 0, 3, 8)))


def samples(seed, many, most=4):
    """Webs with changes, the webs on their way among them, the last one behind."""
    chance = random.Random(seed)
    found = []
    for i in range(many):
        web = ALL_WEBS[i % len(ALL_WEBS)] if i % 2 else some_web(chance)
        changes = some_changes(chance, web, chance.randint(1, most))
        webs = [web]
        for change in changes:
            webs.append(changed_by_words(webs[-1], change))
        found.append((web, changes, webs))
    return found


def kinds_of(changes):
    return [change[0] for change in changes]


class CarriedWalkTest(unittest.TestCase):
    def there(self, web, change, walk, expected):
        """The expected walk need not be plain: it is told as [52] says."""
        after = changed_by_words(web, change)
        self.assertEqual(expected, carried_by_words(web, change, walk))
        self.assertEqual(carried_walk(web, (change,), walk), plain_by_words(after, expected))

    def test_turn_over(self):
        walk = (0, 1, ((0, 1, 2), (2, 1, 4), (0, -1, 7)))
        self.there(CHAIN, ("turn over", 0), walk, (0, -1, ((0, 1, 2), (2, 1, 4), (0, -1, -7))))
        self.there(CHAIN, ("turn over", 1), walk, (0, 1, ((0, 1, -2), (2, 1, -4), (0, -1, 7))))
        self.there(CHAIN, ("turn over", 2), walk, walk)

    def test_flip_and_reverse(self):
        walk = (0, 1, ((0, 1, 2), (2, 1, 4), (2, -1, 5), (0, -1, 7)))
        for e in range(3):
            self.there(CHAIN, ("flip", e), walk, walk)
        self.there(CHAIN, ("reverse", 0), walk, (0, 1, ((0, -1, 2), (2, 1, 4), (2, -1, 5), (0, 1, 7))))
        self.there(CHAIN, ("reverse", 2), walk, (0, 1, ((0, 1, 2), (2, -1, 4), (2, 1, 5), (0, -1, 7))))

    def test_slides(self):
        # The first room, then the second one; each over a tie that is crossed forwards or backwards.
        walk = (1, 1, ((1, 1, 2), (1, -1, 3)))
        self.there(CHAIN, ("slide", 1, 0, 0, -1), walk, (1, 1, ((0, -1, 0), (1, 1, 2), (1, -1, 0), (0, 1, 3))))
        self.there(CHAIN, ("slide", 1, 0, 2, 1), walk, (1, 1, ((2, 1, 0), (1, 1, 2), (1, -1, 0), (2, -1, 3))))
        walk = (0, 1, ((0, 1, 2), (0, -1, 3)))
        self.there(CHAIN, ("slide", 0, 1, 2, 1), walk, (0, 1, ((0, 1, 0), (2, -1, 2), (2, 1, 0), (0, -1, 3))))
        self.there(CHAIN, ("slide", 0, 1, 2, -1), walk, (0, 1, ((0, 1, 0), (2, 1, 2), (2, -1, 0), (0, -1, 3))))

    def test_slides_of_ties_from_a_room_to_itself(self):
        walk = (0, 1, ((1, 1, 2), (1, 1, 3), (1, -1, 4), (0, 1, 5)))
        self.there(LOOPS, ("slide", 1, 1, 0, 1), walk,
                   (0, 1, ((1, 1, 0), (0, -1, 2), (1, 1, 0), (0, -1, 3), (0, 1, 0), (1, -1, 4), (0, 1, 5))))
        web = (2, ((0, 1, 2, 3), (0, 0, 4, 6)))
        walk = (1, 1, ((0, -1, 2), (1, 1, 3), (1, -1, 5), (0, 1, 0)))
        self.there(web, ("slide", 1, 0, 0, 1), walk,
                   (1, 1, ((0, -1, 2), (0, 1, 0), (1, 1, 3), (1, -1, 0), (0, -1, 5), (0, 1, 0))))
        self.there(web, ("slide", 1, 1, 0, 1), walk,
                   (1, 1, ((0, -1, 2), (1, 1, 0), (0, -1, 3), (0, 1, 0), (1, -1, 5), (0, 1, 0))))

    def test_draw_in(self):
        web = (3, ((0, 1, 2, 3), (1, 2, -1, 5), (1, 1, 3, -4)))
        walk = (0, 1, ((0, 1, 2), (1, 1, 3), (1, -1, 4), (2, 1, 5), (0, -1, 6)))
        self.there(web, ("draw in", 1, 1), walk, (0, 1, ((0, 1, -10 + 3 - 20), (1, 1, -25), (0, -1, 6))))
        # Walks that begin or end in the room that is drawn in.
        self.there(web, ("draw in", 1, 1), (1, 1, ((1, 1, 3), (1, -1, 4))), (1, -5 + 3 - 20, ()))
        self.there(web, ("draw in", 1, 1), (2, 1, ((1, -1, 4), (2, 1, 7))), (1, 1 - 20, ((1, 1, -35),)))
        # Numbers behind those that are left out.
        web = (3, ((1, 0, 1, 2), (1, 2, 4, 1)))
        self.there(web, ("draw in", 0, 1), (0, 3, ((0, -1, 1), (1, 1, 5), (1, -1, 7))), (0, 5, ((0, 1, 5), (0, -1, 14))))
        self.there(web, ("draw in", 1, -1), (2, 1, ((1, -1, 1), (0, 1, 1))), (1, 5, ((0, 1, 1),)))

    def test_draw_out(self):
        web = (2, ((0, 1, 4, 6), (1, 1, 3, -9)))
        walk = (0, 1, ((0, 1, 2), (1, 1, 3), (1, -1, 4), (0, -1, 5)))
        new = 2
        self.there(web, ("draw out", 1, 3, ()), walk, walk)
        self.there(web, ("draw out", 1, 3, ((0, 1),)), walk,
                   (0, 1, ((0, 1, 0), (new, 1, 2), (1, 1, 3), (1, -1, 4), (new, -1, 0), (0, -1, 5))))
        self.there(web, ("draw out", 1, 3, ((1, 0),)), walk,
                   (0, 1, ((0, 1, 2), (new, -1, 0), (1, 1, 3), (1, -1, 0), (new, 1, 4), (0, -1, 5))))
        # A step that does both gets both.
        self.there(web, ("draw out", 1, 3, ((1, 0), (1, 1))), walk,
                   (0, 1, ((0, 1, 2), (new, -1, 0), (1, 1, 0), (new, 1, 3), (new, -1, 0), (1, -1, 0), (new, 1, 4), (0, -1, 5))))

    def test_by_words(self):
        chance = random.Random(2301)
        for web, changes, webs in samples(2302, 400):
            walk = some_walk(chance, web, chance.randint(0, 7))
            expected = walk
            for before, change in zip(webs, changes):
                expected = carried_by_words(before, change, expected)
            expected = plain_by_words(webs[-1], expected)
            if len(expected[2]) > 60:
                with self.assertRaises(TooMany):
                    carried_walk(web, changes, walk)
            else:
                self.assertEqual(carried_walk(web, changes, walk), expected)
                self.assertTrue(is_walk(webs[-1], expected))

    def test_no_changes(self):
        walk = (0, 7, ((0, 1, 3), (0, -1, 4)))
        self.assertEqual(carried_walk(TURNING, (), walk), plain_by_words(TURNING, walk))
        self.assertEqual(taken_back(TURNING, (), walk), plain_by_words(TURNING, walk))


class TakenBackTest(unittest.TestCase):
    def back(self, web, change, walk, expected):
        """The expected walk need not be plain: it is told as [53] says."""
        self.assertEqual(expected, back_by_words(web, change, walk))
        self.assertEqual(taken_back(web, (change,), walk), plain_by_words(web, expected))

    def test_turn_over_flip_and_reverse(self):
        walk = (0, 1, ((0, 1, 2), (2, 1, 4), (0, -1, 7)))
        self.back(CHAIN, ("turn over", 1), walk, (0, 1, ((0, 1, -2), (2, 1, -4), (0, -1, 7))))
        self.back(CHAIN, ("flip", 1), walk, walk)
        walk = (0, 1, ((0, -1, 2), (2, 1, 4), (0, 1, 7)))
        self.back(CHAIN, ("reverse", 0), walk, (0, 1, ((0, 1, 2), (2, 1, 4), (0, -1, 7))))

    def test_slides(self):
        walk = (0, 1, ((1, 1, 2), (1, -1, 3)))
        self.back(CHAIN, ("slide", 1, 0, 0, -1), walk, (0, 1, ((0, 1, 0), (1, 1, 2), (1, -1, 0), (0, -1, 3))))
        walk = (0, 1, ((0, 1, 2), (0, -1, 3)))
        self.back(CHAIN, ("slide", 0, 1, 2, 1), walk, (0, 1, ((0, 1, 0), (2, 1, 2), (2, -1, 0), (0, -1, 3))))
        walk = (0, 1, ((1, 1, 2), (1, -1, 4), (0, 1, 5)))
        self.back(LOOPS, ("slide", 1, 1, 0, -1), walk, (0, 1, ((1, 1, 0), (0, -1, 2), (0, 1, 0), (1, -1, 4), (0, 1, 5))))

    def test_draw_in(self):
        web = (3, ((0, 1, 2, 3), (1, 2, -1, 5), (1, 1, 3, -4)))
        walk = (0, 1, ((0, 1, 2), (1, 1, 3), (0, -1, 6)))
        self.back(web, ("draw in", 1, 1), walk,
                  (0, 1, ((0, 1, 0), (1, 1, 2), (1, -1, 0), (2, 1, 0), (1, 1, 3), (1, -1, 0), (0, -1, 6))))
        # The walk begins in the old room to which room 1 was drawn in.
        self.back(web, ("draw in", 1, 1), (1, 4, ()), (2, 4, ()))
        web = (3, ((1, 0, 1, 2), (1, 2, 4, 1)))
        self.back(web, ("draw in", 0, 1), (0, 3, ((0, 1, 1), (0, -1, 7))), (0, 3, ((0, -1, 0), (1, 1, 1), (1, -1, 0), (0, 1, 7))))

    def test_draw_out(self):
        web = (2, ((0, 1, 4, 6), (1, 1, 3, -9)))
        change = ("draw out", 1, 3, ((0, 1), (1, 1)))
        walk = (0, 1, ((0, 1, 2), (2, 1, 3), (1, 1, 4), (2, 1, 5), (2, -1, 6), (0, -1, 7)))
        self.back(web, change, walk, (0, 1, ((0, 1, 9), (1, 1, 12 + 5 + 18), (0, -1, 7))))
        # Walks that begin or end in the new room.
        self.back(web, change, (2, 1, ((2, 1, 5), (1, 1, 6))), (1, 8, ((1, 1, 18),)))
        self.back(web, change, (2, 4, ()), (1, 12, ()))

    def test_by_words(self):
        chance = random.Random(2303)
        for web, changes, webs in samples(2304, 400):
            walk = some_walk(chance, webs[-1], chance.randint(0, 7))
            expected = walk
            for before, change in list(zip(webs, changes))[::-1]:
                expected = back_by_words(before, change, expected)
            expected = plain_by_words(web, expected)
            if len(expected[2]) > 60:
                with self.assertRaises(TooMany):
                    taken_back(web, changes, walk)
            else:
                self.assertEqual(taken_back(web, changes, walk), expected)
                self.assertTrue(is_walk(web, expected))


class CarriedRoomTest(unittest.TestCase):
    def test_rooms(self):
        web = (4, ((2, 3, 7, 1), (0, 1, 1, 2), (3, 0, 5, 6), (0, 0, 2, 3)))
        for change, expected in ((("draw in", 1, 1), [0, 0, 1, 2]), (("draw in", 0, -1), [0, 1, 2, 2]),
                                 (("turn over", 1), [0, 1, 2, 3]), (("reverse", 1), [0, 1, 2, 3]),
                                 (("draw out", 0, 2, ((3, 0),)), [0, 1, 2, 3])):
            self.assertEqual([carried_room(web, (change,), room) for room in range(4)], expected)
        self.assertEqual([carried_room(web, (("draw in", 1, 1), ("draw in", 0, -1)), room) for room in range(4)], [0, 0, 1, 1])
        self.assertEqual(carried_room(web, (), 2), 2)

    def test_walks_begin_and_end_there(self):
        chance = random.Random(2305)
        for web, changes, webs in samples(2306, 150):
            for room in range(web[0]):
                self.assertEqual(carried_walk(web, changes, (room, 0, ()))[0], carried_room(web, changes, room))
            walk = some_walk(chance, web, 3)
            carried = carried_walk(web, changes, walk)
            self.assertEqual(carried[0], carried_room(web, changes, walk[0]))
            self.assertEqual(last_room(webs[-1], carried), carried_room(web, changes, last_room(web, walk)))


class WhatStaysTest(unittest.TestCase):
    """[54]."""

    def test_equal_exactly_if_equal(self):
        chance = random.Random(2307)
        counts = {True: 0, False: 0}
        for web, changes, _ in samples(2308, 300, 3):
            walk = some_walk(chance, web, chance.randint(0, 3), most=3)
            other = some_walk(chance, web, chance.randint(0, 3), walk[0], most=3)
            if chance.random() < 0.6:
                other = plain_by_words(web, joined(walk, other, back(web, other)))
            if last_room(web, walk) == last_room(web, other):
                expected = same(web, walk, other)
                counts[expected] += 1
                self.assertIs(carried_walk(web, changes, walk) == carried_walk(web, changes, other), expected)
        self.assertGreater(min(counts.values()), 60)

    def test_walks_that_end_in_the_two_rooms_of_a_tie_that_is_drawn_in(self):
        web, change = (2, ((0, 1, 1, 3),)), (("draw in", 0, 1),)
        self.assertEqual(carried_walk(web, change, (0, 2, ())), (0, 6, ()))
        self.assertEqual(carried_walk(web, change, (0, 2, ((0, 1, 0),))), (0, 6, ()))

    def test_joined_and_opposite(self):
        chance = random.Random(2309)
        for web, changes, webs in samples(2310, 250, 3):
            walk = some_walk(chance, web, chance.randint(0, 3))
            other = some_walk(chance, web, chance.randint(0, 3), last_room(web, walk))
            there = [carried_walk(web, changes, one) for one in (walk, other, joined(walk, other), back(web, walk))]
            self.assertEqual(plain_by_words(webs[-1], joined(there[0], there[1])), there[2])
            self.assertEqual(plain_by_words(webs[-1], back(webs[-1], there[0])), there[3])

    def test_there_and_back(self):
        chance = random.Random(2311)
        kinds = {True: 0, False: 0}
        for web, changes, webs in samples(2312, 500):
            walk = some_walk(chance, web, chance.randint(0, 4))
            drawn = "draw in" in kinds_of(changes)
            kinds[drawn] += 1
            if drawn and not self.rooms_are_kept(web, changes, webs, [walk[0], last_room(web, walk)]):
                continue
            there = carried_walk(web, changes, walk)
            self.assertEqual(taken_back(web, changes, there), plain_by_words(web, walk))
        self.assertGreater(min(kinds.values()), 50)

    def rooms_are_kept(self, web, changes, webs, rooms):
        """Whether none of some rooms is drawn in."""
        for before, change in zip(webs, changes):
            if change[0] == "draw in":
                v = before[1][change[1]][0 if change[2] == 1 else 1]
                if v in rooms:
                    return False
            rooms = [carried_room(before, (change,), room) for room in rooms]
        return True

    def test_back_and_there(self):
        chance = random.Random(2313)
        found = 0
        for web, changes, webs in samples(2314, 500):
            walk = some_walk(chance, webs[-1], chance.randint(0, 4))
            if "draw out" in kinds_of(changes):
                # A room that was drawn out is left by going back: only those that have another number are looked at.
                if len(changes) > 1 or web[0] in (walk[0], last_room(webs[-1], walk)):
                    continue
            found += 1
            returned = taken_back(web, changes, walk)
            self.assertEqual(carried_walk(web, changes, returned), plain_by_words(webs[-1], walk))
        self.assertGreater(found, 150)

    def test_going_on(self):
        chance = random.Random(2315)
        counts = {True: 0, False: 0}
        for web, changes, webs in samples(2316, 300, 3):
            walk = some_closed(chance, web, 4)
            counts[goes_on(web, walk)] += 1
            self.assertIs(goes_on(webs[-1], carried_walk(web, changes, walk)), goes_on(web, walk))
        self.assertGreater(min(counts.values()), 50)

    def test_spans(self):
        chance = random.Random(2317)
        seen = {}
        for web, changes, webs in samples(2318, 300, 2):
            room = chance.randrange(web[0])
            given = some_given(chance, web, room, 3, 4)
            there = tuple([carried_walk(web, changes, walk) for walk in given])
            if sum(len(walk[2]) for walk in there) > 60:
                continue
            at, after = carried_room(web, changes, room), webs[-1]
            index, rank = span_index(web, room, given), free_rank(web, room, given)
            self.assertEqual(span_index(after, at, there), index)
            self.assertEqual(free_rank(after, at, there), rank)
            walk = some_closed(chance, web, 3, room)
            inside = in_span(web, room, given, walk)
            self.assertIs(in_span(after, at, there, carried_walk(web, changes, walk)), inside)
            for key in (("index", index is None), ("rank", rank is None), ("in", inside)):
                seen[key] = seen.get(key, 0) + 1
        self.assertGreater(min(seen.values()), 20)
        self.assertEqual(len(seen), 6)


class RaisesTest(unittest.TestCase):
    def test_what_changed_web_raises_comes_first(self):
        great = (0, BOUND - 1, ((0, 1, BOUND - 1),) * 61)
        for function, more in ((carried_walk, great), (taken_back, great), (carried_room, 0)):
            with self.assertRaises(TooMany) as caught:
                function(TURNING, (("flip", 0),) * 9, more)
            self.assertEqual(caught.exception.what, "changes")
            for value in OTHER_KINDS + (("draw in", 0, 1), ("flip", 1)):
                with self.assertRaises(NoMove) as caught:
                    function(TURNING, (("flip", 0), ("reverse", 0), value), more)
                self.assertEqual(caught.exception.number, 2)
            with self.assertRaises(NoMove) as caught:
                changed_web(TURNING, (("flip", 0), ("reverse", 0), None))

    def test_walks_that_become_too_long(self):
        # Each crossing becomes two, and nothing can be struck.
        slide = ("slide", 1, 0, 0, 1)
        web = (1, ((0, 0, 1, 2), (0, 0, 1, 2)))
        for steps, function, change in ((30, carried_walk, slide), (30, taken_back, slide)):
            after = web if function is carried_walk else changed_web(web, (change,))
            walk = (0, 0, ((1, 1, 0),) * steps)
            self.assertTrue(is_walk(after, walk))
            self.assertEqual(len(function(web, (change,), walk)[2]), 60)
            with self.assertRaises(TooMany) as caught:
                function(web, (change,), (0, 0, ((1, 1, 0),) * (steps + 1)))
            self.assertEqual(caught.exception.what, "steps")

    def test_only_the_last_walk_counts(self):
        web = (1, ((0, 0, 1, 2), (0, 0, 1, 2)))
        there, back_again = ("slide", 1, 0, 0, 1), ("slide", 1, 0, 0, -1)
        walk = (0, 0, ((1, 1, 0),) * 60)
        self.assertEqual(carried_walk(web, (there, back_again), walk), walk)
        self.assertEqual(taken_back(web, (there, back_again), walk), walk)
        # Turns that become too great and lesser again.
        web = (2, ((0, 1, 1, 1000), (0, 0, 1, 1)))
        turns = BOUND - 1
        out = ("draw out", 0, 1000, ())
        self.assertEqual(taken_back(STILL, (out,), (1, turns // 1000, ())), (0, turns // 1000 * 1000, ()))
        for worth in (turns // 1000 + 1, -turns, turns):
            with self.assertRaises(TooGreat) as caught:
                taken_back(STILL, (out,), (1, worth, ()))
            self.assertEqual(caught.exception.what, "turns")
        draw = ("draw in", 0, 1)
        web = (2, ((0, 1, 1, 1000),))
        for worth in (turns // 1000 + 1, -turns, turns):
            with self.assertRaises(TooGreat):
                carried_walk(web, (draw,), (0, worth, ()))
        self.assertEqual(carried_walk(web, (draw,), (0, turns // 1000, ())), (0, turns // 1000 * 1000, ()))

    def test_great_turns_on_the_way(self):
        # In the web on the way the turns are 1000 times as many; a walk of the last web has few of them again.
        web = (2, ((0, 1, 1, 1000), (0, 0, 1, 1)))
        changes = (("draw in", 0, 1), ("draw out", 0, 1000, ((0, 0), (0, 1))))
        self.assertEqual(changed_web(web, changes), (2, ((1, 1, 1, 1), (1, 0, 1, 1000))))
        walk = (0, BOUND - 1, ((1, 1, 1 - BOUND),))
        there = carried_walk(web, changes, walk)
        self.assertEqual(there, (0, 0, ((1, -1, 0), (0, 1, 0), (1, 1, 0))))
        walk = (0, 0, ((1, -1, 0), (0, 1, 7), (1, 1, 0)))
        self.assertEqual(taken_back(web, changes, walk), plain_by_words(web, (1, 0, ((0, -1, 0), (1, 1, 7), (0, 1, 0)))))
