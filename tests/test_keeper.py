import random
import unittest

from tests.samples import (
    ALL_WEBS, BOUND, BRIDGE, DOUBLING, EVEN, KLEIN, LONE, OTHER_KINDS, PAIR, STILL, TRIANGLE, TURNING, back, joined,
    last_room, plain_by_words, same, some_walk)
from tubewords.errors import (
    InUse, NameTaken, NothingToRedo, NothingToUndo, NotJoined, OutOfRange, TooGreat, TooMany, UnknownName, WebError)
from tubewords.keeper import Keeper

E = (0, 0, ((0, 1, 0),))


def look(keeper):
    """All that a keeper tells, but for what there is to undo."""
    names = keeper.names_now()
    return (keeper.web_now(), names, [keeper.walk_of_name(name) for name in names], keeper.groups())


def history(keeper):
    """All that a keeper tells now, and behind each undo and redo there is; it is left as it was."""
    told = [look(keeper)]
    undone = 0
    while True:
        try:
            keeper.undo()
        except NothingToUndo:
            break
        undone += 1
        told.append(look(keeper))
    for _ in range(undone):
        keeper.redo()
    redone = 0
    while True:
        try:
            keeper.redo()
        except NothingToRedo:
            break
        redone += 1
        told.append(look(keeper))
    for _ in range(redone):
        keeper.undo()
    return told, undone, redone


class KeeperCase(unittest.TestCase):
    def raises(self, error, attributes, function, *arguments):
        with self.assertRaises(WebError) as caught:
            function(*arguments)
        self.assertIs(type(caught.exception), error)
        self.assertEqual(tuple(vars(caught.exception).values()), attributes)

    def wrong(self, keeper, error, attributes, function, *arguments):
        """An error that changes nothing, not even what there is to undo and to redo."""
        before = history(keeper)
        self.raises(error, attributes, function, *arguments)
        self.assertEqual(history(keeper), before)


class NamesTest(KeeperCase):
    def test_a_new_keeper(self):
        for web in ALL_WEBS:
            keeper = Keeper(web)
            self.assertEqual(look(keeper), (web, (), [], ()))
            self.assertEqual(list(keeper), [])

    def test_keep_and_forget(self):
        keeper = Keeper(TURNING)
        self.assertIsNone(keeper.keep("a", E))
        self.assertIsNone(keeper.keep("", (0, 5, ())))
        self.assertIsNone(keeper.keep("A name of any string\n", (0, 5, ())))
        self.assertEqual(keeper.names_now(), ("a", "", "A name of any string\n"))
        self.assertEqual(keeper.walk_of_name(""), (0, 5, ()))
        self.assertIsNone(keeper.forget("a"))
        self.assertEqual(keeper.names_now(), ("", "A name of any string\n"))
        keeper.keep("a", (0, 1, ()))
        self.assertEqual(keeper.names_now(), ("", "A name of any string\n", "a"))
        self.assertEqual(keeper.walk_of_name("a"), (0, 1, ()))

    def test_walks_are_kept_as_they_are(self):
        keeper = Keeper(TURNING)
        walk = (0, 9, ((0, 1, 3), (0, -1, 4)))
        keeper.keep("a", walk)
        self.assertEqual(keeper.walk_of_name("a"), walk)
        self.assertEqual(keeper.plain_of_name("a"), plain_by_words(TURNING, walk))
        self.assertEqual(keeper.walk_of_name("a"), walk)

    def test_names_taken_and_unknown(self):
        keeper = Keeper(TURNING)
        keeper.keep("a", E)
        self.wrong(keeper, NameTaken, ("a",), keeper.keep, "a", E)
        self.wrong(keeper, NameTaken, ("a",), keeper.keep, "a", (0, 5, ()))
        for name in ("b", "", "A", "a "):
            self.wrong(keeper, UnknownName, (name,), keeper.walk_of_name, name)
            self.wrong(keeper, UnknownName, (name,), keeper.forget, name)
            self.wrong(keeper, UnknownName, (name,), keeper.plain_of_name, name)
        keeper.forget("a")
        self.wrong(keeper, UnknownName, ("a",), keeper.forget, "a")
        keeper.keep("a", (0, 5, ()))

    def test_20_and_21_names(self):
        keeper = Keeper(STILL)
        for i in range(20):
            keeper.keep(str(i), (0, i, ()))
        self.assertEqual(len(keeper.names_now()), 20)
        self.wrong(keeper, TooMany, ("names",), keeper.keep, "20", (0, 20, ()))
        # A name that is taken goes first.
        self.wrong(keeper, NameTaken, ("7",), keeper.keep, "7", (0, 20, ()))
        keeper.forget("3")
        keeper.keep("20", (0, 20, ()))
        self.assertEqual(keeper.names_now()[-2:], ("19", "20"))
        self.wrong(keeper, TooMany, ("names",), keeper.keep, "3", (0, 3, ()))


class WebTest(KeeperCase):
    def test_rooms(self):
        keeper = Keeper(TRIANGLE)
        self.assertEqual([keeper.add_room(), keeper.add_room()], [3, 4])
        self.assertEqual(keeper.web_now(), (5, TRIANGLE[1]))
        self.wrong(keeper, TooMany, ("rooms",), keeper.add_room)
        self.wrong(Keeper((5, ())), TooMany, ("rooms",), Keeper((5, ())).add_room)

    def test_ties(self):
        keeper = Keeper(BRIDGE)
        self.assertEqual(keeper.add_tie((1, 1, -1000, 1000)), 1)
        self.assertEqual(keeper.add_tie((1, 0, 1, 1)), 2)
        self.assertEqual(keeper.web_now(), (2, BRIDGE[1] + ((1, 1, -1000, 1000), (1, 0, 1, 1))))
        keeper.add_room()
        self.assertEqual(keeper.add_tie((2, 2, 3, 3)), 3)

    def test_7_and_8_ties(self):
        keeper = Keeper((1, ((0, 0, 1, 1),) * 6))
        self.assertEqual(keeper.add_tie((0, 0, 2, 2)), 6)
        self.wrong(keeper, TooMany, ("ties",), keeper.add_tie, (0, 0, 1, 1))
        # What is no tie goes first.
        self.wrong(keeper, OutOfRange, ((0, 1, 1, 1),), keeper.add_tie, (0, 1, 1, 1))

    def test_values_that_are_no_ties(self):
        keeper = Keeper(BRIDGE)
        keeper.keep("a", (0, 1, ()))
        for value in OTHER_KINDS + (
                0, (0, 2, 1, 1), (2, 0, 1, 1), (-1, 0, 1, 1), (0, -1, 1, 1), (0, 1, 0, 1), (0, 1, 1, 0), (0, 1, 1001, 1),
                (0, 1, 1, -1001), (0, 1, 1), (0, 1, 1, 1, 1), (True, 0, 1, 1), (0, False, 1, 1), (0, 1, True, 1), (0, 1, 1, True),
                ("0", 1, 1, 1), (0, None, 1, 1), (0, 1, (1,), 1), ((0, 1, 1, 1),), "0 1 1 1"):
            self.wrong(keeper, OutOfRange, (value,), keeper.add_tie, value)
        self.assertEqual(keeper.web_now(), BRIDGE)

    def test_cutting(self):
        keeper = Keeper(TRIANGLE)
        keeper.keep("a", (0, 1, ((0, 1, 2), (1, 1, 3), (2, 1, 4))))
        keeper.keep("b", (1, 1, ((3, 1, 2), (1, 1, 0))))
        keeper.keep("c", (0, 5, ((2, -1, 2),)))
        for number, name in ((0, "a"), (1, "a"), (2, "a"), (3, "b")):
            self.wrong(keeper, InUse, (number, name), keeper.cut_tie, number)
        keeper.forget("a")
        self.wrong(keeper, InUse, (1, "b"), keeper.cut_tie, 1)
        self.wrong(keeper, InUse, (2, "c"), keeper.cut_tie, 2)
        # Later ties get lesser numbers, in the named walks, too.
        self.assertIsNone(keeper.cut_tie(0))
        self.assertEqual(keeper.web_now(), (3, TRIANGLE[1][1:]))
        self.assertEqual(keeper.walk_of_name("b"), (1, 1, ((2, 1, 2), (0, 1, 0))))
        self.assertEqual(keeper.walk_of_name("c"), (0, 5, ((1, -1, 2),)))
        keeper.forget("c")
        keeper.cut_tie(1)
        self.assertEqual(keeper.web_now(), (3, (TRIANGLE[1][1], TRIANGLE[1][3])))
        self.assertEqual(keeper.walk_of_name("b"), (1, 1, ((1, 1, 2), (0, 1, 0))))
        keeper.undo()
        self.assertEqual(keeper.walk_of_name("b"), (1, 1, ((2, 1, 2), (0, 1, 0))))

    def test_numbers_of_no_tie(self):
        keeper = Keeper(TRIANGLE)
        keeper.keep("a", (0, 1, ((0, 1, 2),)))
        for number in (4, -1, -4, 100, 10 ** 30):
            self.wrong(keeper, OutOfRange, (number,), keeper.cut_tie, number)
        self.wrong(Keeper(STILL), OutOfRange, (0,), Keeper(STILL).cut_tie, 0)

    def test_equal_walks_stay_equal(self):
        chance = random.Random(2901)
        for web in (TURNING, BRIDGE, PAIR, TRIANGLE, KLEIN) * 8:
            keeper = Keeper(web)
            for i in range(8):
                walk = some_walk(chance, web, chance.randint(0, 3), 0, 2)
                if i % 2 == 1:
                    other = keeper.walk_of_name(str(i - 1))
                    walk = plain_by_words(web, joined(walk, back(web, walk), other))
                keeper.keep(str(i), walk)
            groups = keeper.groups()
            keeper.add_room()
            keeper.add_tie((0, 0, 2, 2))
            keeper.add_tie((0, web[0], 3, 3))
            self.assertEqual(keeper.groups(), groups)
            keeper.cut_tie(len(web[1]))
            self.assertEqual(keeper.groups(), groups)
            crossed = [tie for name in keeper for tie, _, _ in keeper.walk_of_name(name)[2]]
            for number in reversed(range(len(web[1]))):
                if number not in crossed:
                    keeper.cut_tie(number)
            self.assertEqual(keeper.groups(), groups)


class UndoTest(KeeperCase):
    def test_nothing(self):
        keeper = Keeper(TURNING)
        self.wrong(keeper, NothingToUndo, (), keeper.undo)
        self.wrong(keeper, NothingToRedo, (), keeper.redo)

    def test_each_kind_of_change(self):
        def start():
            keeper = Keeper(PAIR)
            keeper.keep("a", (0, 1, ((1, -1, 2),)))
            keeper.keep("b", (1, 1, ()))
            return keeper

        for change in (lambda keeper: keeper.keep("c", (1, 2, ())), lambda keeper: keeper.forget("a"), Keeper.add_room,
                       lambda keeper: keeper.add_tie((1, 1, 2, 3)), lambda keeper: keeper.cut_tie(0)):
            keeper = start()
            before = look(keeper)
            change(keeper)
            after = look(keeper)
            self.assertNotEqual(before, after)
            self.raises(NothingToRedo, (), keeper.redo)
            for _ in range(2):
                self.assertIsNone(keeper.undo())
                self.assertEqual(look(keeper), before)
                self.assertIsNone(keeper.redo())
                self.assertEqual(look(keeper), after)
            self.raises(NothingToRedo, (), keeper.redo)
            for _ in range(3):
                keeper.undo()
            self.assertEqual(look(keeper), (PAIR, (), [], ()))
            self.raises(NothingToUndo, (), keeper.undo)
            for _ in range(3):
                keeper.redo()
            self.assertEqual(look(keeper), after)

    def test_a_forgotten_name_comes_back_in_its_place(self):
        keeper = Keeper(STILL)
        for name in "abc":
            keeper.keep(name, (0, ord(name), ()))
        keeper.forget("b")
        keeper.keep("b", (0, 0, ()))
        keeper.undo()
        keeper.undo()
        self.assertEqual(keeper.names_now(), ("a", "b", "c"))
        self.assertEqual(keeper.walk_of_name("b"), (0, 98, ()))
        keeper.redo()
        keeper.redo()
        self.assertEqual(keeper.names_now(), ("a", "c", "b"))

    def test_behind_errors_and_new_changes(self):
        keeper = Keeper(TURNING)
        keeper.keep("a", E)
        keeper.keep("b", E)
        keeper.undo()
        for error, attributes, function, arguments in (
                (NameTaken, ("a",), keeper.keep, ("a", E)), (UnknownName, ("b",), keeper.forget, ("b",)),
                (OutOfRange, (5,), keeper.add_tie, (5,)), (InUse, (0, "a"), keeper.cut_tie, (0,)),
                (OutOfRange, (1,), keeper.cut_tie, (1,))):
            self.wrong(keeper, error, attributes, function, *arguments)
        keeper.redo()
        self.assertEqual(keeper.names_now(), ("a", "b"))
        keeper.undo()
        # What is asked is no change.
        keeper.groups(), keeper.tried(((0, 0, 1, 1),)), keeper.joined_names(("a", "a")), keeper.equal_names("a", "a")
        keeper.keep("c", E)
        self.wrong(keeper, NothingToRedo, (), keeper.redo)
        keeper.undo()
        keeper.undo()
        self.assertEqual(keeper.names_now(), ())
        self.wrong(keeper, NothingToUndo, (), keeper.undo)

    def test_by_words(self):
        chance = random.Random(2902)
        for _ in range(30):
            keeper = Keeper(chance.choice(ALL_WEBS))
            states, at = [look(keeper)], 0
            for _ in range(40):
                do = chance.randrange(7)
                try:
                    if do == 0:
                        keeper.undo()
                        at -= 1
                        self.assertGreaterEqual(at, 0)
                    elif do == 1:
                        keeper.redo()
                        at += 1
                        self.assertLess(at, len(states))
                    else:
                        web, names = keeper.web_now(), keeper.names_now()
                        if do == 2:
                            keeper.keep(chance.choice("abcdefgh"), some_walk(chance, web, 3))
                        elif do == 3:
                            keeper.forget(chance.choice(names or ("x",)))
                        elif do == 4:
                            keeper.add_room()
                        elif do == 5:
                            keeper.add_tie((chance.randrange(web[0]), chance.randrange(web[0]), 2, chance.choice((1, 3))))
                        else:
                            keeper.cut_tie(chance.randint(0, len(web[1])))
                        at += 1
                        del states[at:]
                        states.append(look(keeper))
                except NothingToUndo:
                    self.assertEqual(at, 0)
                except NothingToRedo:
                    self.assertEqual(at, len(states) - 1)
                except WebError:
                    pass
                self.assertEqual(look(keeper), states[at])


class BlocksTest(KeeperCase):
    def start(self):
        """A keeper with something to undo and something to redo."""
        keeper = Keeper(BRIDGE)
        keeper.keep("a", (0, 1, ()))
        keeper.add_tie((0, 0, 2, 2))
        keeper.keep("b", (0, 2, ()))
        keeper.add_room()
        keeper.undo()
        keeper.undo()
        return keeper

    def test_all_is_taken_back(self):
        keeper = self.start()
        before = history(keeper)
        with keeper:
            keeper.keep("z", (0, 0, ((1, 1, 0),)))
            keeper.add_room()
            keeper.add_tie((2, 2, 1, 1))
            keeper.forget("a")
            self.assertEqual(keeper.web_now(), (3, BRIDGE[1] + ((0, 0, 2, 2), (2, 2, 1, 1))))
            self.assertEqual(keeper.names_now(), ("z",))
            self.raises(NothingToRedo, (), keeper.redo)
        self.assertEqual(history(keeper), before)
        keeper.redo()
        self.assertEqual(keeper.names_now(), ("a", "b"))

    def test_the_keeper_itself_is_told(self):
        keeper = self.start()
        with keeper as told:
            self.assertIs(told, keeper)

    def test_by_an_error(self):
        keeper = self.start()
        before = history(keeper)
        for error in (UnknownName, ZeroDivisionError, KeyboardInterrupt):
            with self.assertRaises(error):
                with keeper:
                    keeper.keep("z", (0, 0, ()))
                    if error is UnknownName:
                        keeper.forget("y")
                    raise error
            self.assertEqual(history(keeper), before)

    def test_undo_of_what_was_changed_before(self):
        keeper = self.start()
        before = history(keeper)
        with keeper:
            keeper.undo()
            keeper.undo()
            self.assertEqual(look(keeper), (BRIDGE, (), [], ()))
            self.raises(NothingToUndo, (), keeper.undo)
            keeper.keep("n", (1, 0, ()))
            self.raises(NothingToRedo, (), keeper.redo)
        self.assertEqual(history(keeper), before)
        with keeper:
            keeper.redo()
            keeper.redo()
            self.assertEqual(keeper.web_now()[0], 3)
        self.assertEqual(history(keeper), before)

    def test_blocks_in_blocks(self):
        keeper = self.start()
        outside = history(keeper)
        with keeper:
            keeper.keep("x", (0, 5, ()))
            keeper.undo()
            one = history(keeper)
            with keeper:
                keeper.redo()
                keeper.forget("a")
                two = history(keeper)
                with keeper:
                    keeper.undo()
                    keeper.undo()
                    keeper.undo()
                    keeper.add_room()
                self.assertEqual(history(keeper), two)
                with self.assertRaises(NameTaken):
                    with keeper:
                        keeper.keep("x", (0, 0, ()))
                self.assertEqual(history(keeper), two)
            self.assertEqual(history(keeper), one)
            keeper.redo()
            self.assertEqual(keeper.names_now(), ("a", "x"))
        self.assertEqual(history(keeper), outside)
        with self.assertRaises(OutOfRange):
            with keeper:
                keeper.add_room()
                with keeper:
                    keeper.add_tie(None)
        self.assertEqual(history(keeper), outside)
        # Behind all blocks changes stay.
        keeper.keep("x", (0, 5, ()))
        self.assertEqual(keeper.names_now(), ("a", "x"))

    def test_two_keepers(self):
        first, second = self.start(), self.start()
        with first:
            with second:
                first.keep("f", (0, 0, ()))
                second.keep("s", (0, 0, ()))
            self.assertEqual((first.names_now(), second.names_now()), (("a", "f"), ("a",)))
        self.assertEqual(first, second)


class AskedTest(KeeperCase):
    def test_equal_names(self):
        keeper = Keeper(TURNING)
        keeper.keep("a", (0, 2, ((0, 1, 3), (0, -1, 4))))
        keeper.keep("b", (0, 8, ()))
        keeper.keep("c", (0, 2, ((0, 1, 3), (0, -1, 5))))
        self.assertIs(keeper.equal_names("a", "b"), True)
        self.assertIs(keeper.equal_names("b", "a"), True)
        self.assertIs(keeper.equal_names("a", "c"), False)
        self.assertIs(keeper.equal_names("c", "c"), True)
        self.raises(UnknownName, ("x",), keeper.equal_names, "x", "y")
        self.raises(UnknownName, ("y",), keeper.equal_names, "a", "y")

    def test_equal_names_raises_nothing_else(self):
        keeper = Keeper(DOUBLING)
        keeper.keep("a", (0, BOUND - 1, ((0, 1, 0),)))
        keeper.keep("b", (0, BOUND - 2, ((0, 1, 2),)))
        self.assertIs(keeper.equal_names("a", "b"), True)
        self.assertEqual(keeper.groups(), (("a", "b"),))
        self.raises(TooGreat, ("turns",), keeper.plain_of_name, "a")

    def test_joined_names(self):
        keeper = Keeper(BRIDGE)
        keeper.keep("a", (0, 1, ((0, 1, 2),)))
        keeper.keep("b", (1, 3, ((0, -1, 4),)))
        keeper.keep("c", (0, 5, ()))
        self.assertEqual(keeper.joined_names(("a",)), (0, 1, ((0, 1, 2),)))
        self.assertEqual(keeper.joined_names(("a", "b", "c", "c")), (0, 1, ((0, 1, 5), (0, -1, 14))))
        self.assertEqual(keeper.joined_names(("b", "a")), (1, 3, ((0, -1, 5), (0, 1, 2))))
        self.raises(NotJoined, (1, 0), keeper.joined_names, ("a", "a"))
        self.raises(NotJoined, (0, 1), keeper.joined_names, ("a", "b", "c", "b"))
        # Unknown names go first, the first one of them.
        self.raises(UnknownName, ("x",), keeper.joined_names, ("a", "a", "x", "y"))
        self.raises(UnknownName, ("y",), keeper.joined_names, ("y",))

    def test_joined_names_too_long_and_too_great(self):
        keeper = Keeper(BRIDGE)
        keeper.keep("a", (0, 0, ((0, 1, 0), (0, -1, 0)) * 15))
        keeper.keep("b", (0, 0, ((0, 1, 0),)))
        keeper.keep("c", (0, BOUND - 1, ()))
        self.assertEqual(len(keeper.joined_names(("a", "a"))[2]), 60)
        self.raises(TooMany, ("steps",), keeper.joined_names, ("a", "a", "b"))
        self.raises(TooGreat, ("turns",), keeper.joined_names, ("c", "c"))
        # The walks are joined from the first one on.
        self.raises(TooMany, ("steps",), keeper.joined_names, ("a", "a", "b", "b"))
        self.raises(NotJoined, (1, 0), keeper.joined_names, ("b", "b", "a", "a"))

    def test_groups(self):
        keeper = Keeper(EVEN)
        self.assertEqual(keeper.groups(), ())
        for name, walk in (("d", (0, 2, ((0, 1, 0),))), ("a", (0, 4, ())), ("c", (0, 0, ((0, 1, 2),))), ("b", E),
                           ("e", (0, 2, ((0, 1, 0), (0, -1, 2)))), ("f", (0, 5, ()))):
            keeper.keep(name, walk)
        self.assertEqual(keeper.groups(), (("d", "c"), ("a", "e"), ("b",), ("f",)))
        keeper.forget("d")
        self.assertEqual(keeper.groups(), (("a", "e"), ("c",), ("b",), ("f",)))

    def test_groups_of_the_most_names(self):
        keeper = Keeper(EVEN)
        # Names that come back to a group after others have begun theirs.
        for number in range(20):
            turns = number % 3
            keeper.keep(f"n{number}", (0, turns + 2, ((0, 1, 0),)) if number % 2 else (0, turns, ((0, 1, 2),)))
        before = history(keeper)
        expected = tuple(tuple(f"n{number}" for number in range(first, 20, 3)) for first in (0, 1, 2))
        self.assertEqual(keeper.groups(), expected)
        self.assertEqual(keeper.groups(), expected)
        self.assertEqual(history(keeper), before)

    def test_groups_by_words(self):
        chance = random.Random(2903)
        for web in ALL_WEBS * 3:
            keeper = Keeper(web)
            walks = {}
            for name in "abcdefghij":
                walk = some_walk(chance, web, chance.randint(0, 2), most=2)
                if walks and chance.random() < 0.5:
                    other = chance.choice(list(walks.values()))
                    walk = joined(other, (last_room(web, other), 0, ())) if chance.random() < 0.3 else plain_by_words(web, other)
                walks[name] = walk
                keeper.keep(name, walk)
            groups = []
            for name, walk in walks.items():
                for group in groups:
                    if same(web, walks[group[0]], walk):
                        group.append(name)
                        break
                else:
                    groups.append([name])
            self.assertEqual(keeper.groups(), tuple(map(tuple, groups)))

    def test_tried(self):
        keeper = Keeper(BRIDGE)
        keeper.keep("a", (0, 2, ((0, 1, 0),)))
        keeper.keep("b", (1, 1, ()))
        keeper.keep("c", (0, 0, ((0, 1, 3),)))
        before = history(keeper)
        self.assertEqual(keeper.tried(()), (("a", "c"), ("b",)))
        self.assertEqual(keeper.tried(((0, 1, 1, 1), (1, 1, 5, 5))), (("a", "c"), ("b",)))
        self.assertEqual(keeper.tried(((0, 0, 1, 1),) * 6), (("a", "c"), ("b",)))
        self.assertEqual(history(keeper), before)

    def test_tried_with_ties_that_are_wrong(self):
        keeper = Keeper(BRIDGE)
        keeper.keep("a", (0, 2, ((0, 1, 0),)))
        keeper.undo()
        for ties, error, attributes in ((((0, 0, 1, 1), (0, 2, 1, 1)), OutOfRange, ((0, 2, 1, 1),)),
                                        (((0, 0, 1, 1),) * 7, TooMany, ("ties",)),
                                        (((0, 0, 1, 1),) * 6 + (None,), OutOfRange, (None,)),
                                        ((True,), OutOfRange, (True,))):
            self.wrong(keeper, error, attributes, keeper.tried, ties)
            self.wrong(keeper, error, attributes, keeper.tried_within, ties, (), ("a", (0, 0, ())))
            self.wrong(keeper, error, attributes, keeper.tried_within, (), ties, ("a", (0, 0, ())))

    def test_tried_within(self):
        keeper = Keeper(BRIDGE)
        keeper.keep("a", (0, 0, ()))
        before = history(keeper)
        # The walk is one of the web with the first ties, in which those tried within are gone.
        self.assertEqual(keeper.tried_within(((0, 0, 1, 2),), ((1, 1, 1, 1),), ("b", (0, 1, ((1, 1, -2), (1, -1, 0))))),
                         ((("a",),), (("a", "b"),)))
        self.assertEqual(keeper.tried_within((), ((1, 1, 1, 1),) * 6, ("b", (0, 1, ()))), ((("a",),), (("a",), ("b",))))
        self.assertEqual(keeper.tried_within(((0, 0, 1, 2),) * 3, ((1, 1, 1, 1),) * 3, ("b", (1, 0, ()))),
                         ((("a",),), (("a",), ("b",))))
        self.wrong(keeper, TooMany, ("ties",), keeper.tried_within, ((0, 0, 1, 2),) * 3, ((1, 1, 1, 1),) * 4, ("b", (1, 0, ())))
        self.assertEqual(history(keeper), before)

    def test_tried_within_with_a_name_that_is_taken(self):
        keeper = Keeper(BRIDGE)
        keeper.keep("a", (0, 0, ()))
        self.wrong(keeper, NameTaken, ("a",), keeper.tried_within, ((0, 0, 1, 2),), (), ("a", (0, 1, ())))
        # Ties go ahead of it.
        self.wrong(keeper, OutOfRange, (5,), keeper.tried_within, ((0, 0, 1, 2),), (5,), ("a", (0, 1, ())))
        for name in range(19):
            keeper.keep(str(name), (0, 0, ()))
        self.wrong(keeper, TooMany, ("names",), keeper.tried_within, (), (), ("z", (0, 1, ())))


class OperatorsTest(KeeperCase):
    def test_in(self):
        keeper = Keeper(TURNING)
        keeper.keep("a", E)
        self.assertIs("a" in keeper, True)
        self.assertIs("b" in keeper, False)
        self.assertIs("" in keeper, False)
        self.assertIs("b" not in keeper, True)
        keeper.undo()
        self.assertIs("a" in keeper, False)

    def test_iteration(self):
        keeper = Keeper(STILL)
        self.assertEqual(list(keeper), [])
        for name in "cab":
            keeper.keep(name, (0, 0, ()))
        self.assertEqual(list(keeper), ["c", "a", "b"])
        self.assertEqual([name for name in keeper], ["c", "a", "b"])
        self.assertEqual(tuple(keeper), keeper.names_now())
        keeper.forget("c")
        keeper.keep("c", (0, 0, ()))
        self.assertEqual(list(keeper), ["a", "b", "c"])
        # What is kept meanwhile changes nothing in it.
        seen = []
        for name in keeper:
            seen.append(name)
            keeper.forget(name)
        self.assertEqual((seen, list(keeper)), (["a", "b", "c"], []))

    def test_equal_keepers(self):
        first, second = Keeper(TURNING), Keeper(TURNING)
        self.assertIs(first == second, True)
        self.assertIs(first != second, False)
        first.keep("a", E)
        self.assertIs(first == second, False)
        self.assertIs(first != second, True)
        second.keep("b", E)
        self.assertIs(first == second, False)
        second.keep("a", E)
        second.forget("b")
        # Whatever there is to undo and to redo.
        self.assertIs(first == second, True)
        first.keep("b", E)
        first.undo()
        self.assertIs(first == second, True)
        self.assertIs(first == first, True)

    def test_what_differs(self):
        def keeper(web, *pairs):
            told = Keeper(web)
            for name, walk in pairs:
                told.keep(name, walk)
            return told

        pairs = (("a", (0, 1, ())), ("b", (0, 2, ())))
        self.assertIs(keeper(STILL, *pairs) == keeper(STILL, *pairs), True)
        self.assertIs(keeper(STILL, *pairs) == keeper(STILL, *pairs[::-1]), False)
        self.assertIs(keeper(STILL, *pairs) == keeper(TURNING, *pairs), False)
        self.assertIs(keeper(STILL, *pairs) == keeper(STILL, pairs[0], ("b", (0, 3, ()))), False)
        self.assertIs(keeper(STILL, *pairs) == keeper(STILL, pairs[0], ("c", (0, 2, ()))), False)
        self.assertIs(keeper(STILL, *pairs) == keeper(STILL, pairs[0]), False)
        # Walks that are equal, but not the same.
        self.assertIs(keeper(EVEN, ("a", (0, 2, ((0, 1, 0),)))) == keeper(EVEN, ("a", (0, 0, ((0, 1, 2),)))), False)
        self.assertIs(Keeper(LONE) == Keeper((4, ((0, 0, 1, 1),))), False)

    def test_values_that_are_no_keepers(self):
        keeper = Keeper(STILL)
        for value in OTHER_KINDS + (0, STILL, (STILL, ()), {}, [], object(), Keeper):
            self.assertIs(keeper == value, False)
            self.assertIs(value == keeper, False)
            self.assertIs(keeper != value, True)
