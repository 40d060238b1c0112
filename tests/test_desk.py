import random
import string
import unittest

from tests.samples import ALL_WEBS, BOUND, BRIDGE, DOUBLING, EVEN, STILL, TRIANGLE, TURNING, some_walk
from tests.test_keeper import history
from tubewords.desk import Desk
from tubewords.errors import (
    BadText, InUse, NameTaken, NothingToRedo, NothingToUndo, NotJoined, OutOfRange, TooGreat, TooMany, UnknownName)
from tubewords.keeper import Keeper
from tubewords.texts import read_walk, walk_text, web_text


class DeskCase(unittest.TestCase):
    def answers(self, desk, *rows):
        """Rows are lines with their answers."""
        for line, answer in rows:
            self.assertEqual(desk.line(line), answer, line)

    def wrong(self, desk, answer, *lines):
        """Lines that change nothing."""
        before = history(desk.keeper)
        for line in lines:
            self.assertEqual(desk.line(line), answer, line)
        self.assertEqual(history(desk.keeper), before)


class LinesTest(DeskCase):
    def test_the_keeper(self):
        for web in ALL_WEBS:
            desk = Desk(web)
            self.assertIsInstance(desk.keeper, Keeper)
            self.assertEqual(desk.keeper, Keeper(web))
            self.assertEqual(desk.line("web"), web_text(web))

    def test_keep_and_forget(self):
        desk = Desk(BRIDGE)
        self.answers(desk, ("keep a = 0: 3 t0 -2 t0' 5", "ok"), ("keep b=1:", "ok"), ("keep   c1   =   1 : 2 3  ", "ok"),
                     ("keep abcdefgh =0:1", "ok"), ("keep z99999zz= 0: 0", "ok"))
        self.assertEqual(desk.keeper.names_now(), ("a", "b", "c1", "abcdefgh", "z99999zz"))
        self.assertEqual(desk.keeper.walk_of_name("a"), (0, 3, ((0, 1, -2), (0, -1, 5))))
        self.assertEqual(desk.keeper.walk_of_name("b"), (1, 0, ()))
        self.assertEqual(desk.keeper.walk_of_name("c1"), (1, 5, ()))
        self.answers(desk, ("forget b", "ok"), ("forget c1", "ok"))
        self.assertEqual(list(desk.keeper), ["a", "abcdefgh", "z99999zz"])

    def test_plain(self):
        desk = Desk(TURNING)
        self.answers(desk, ("keep a = 0: 2 t0 3 t0' 4", "ok"), ("plain a", "0: 8"), ("keep b = 0: 7 t0' -4", "ok"),
                     ("plain b", "0: 1 t0' 0"), ("plain c", "error name"))

    def test_equal(self):
        desk = Desk(TURNING)
        self.answers(desk, ("keep a = 0: 2 t0 3 t0' 4", "ok"), ("keep b = 0: 8", "ok"), ("keep c = 0: 9", "ok"),
                     ("equal a b", "yes"), ("equal b a", "yes"), ("equal a c", "no"), ("equal a a", "yes"),
                     ("equal a d", "error name"), ("equal d a", "error name"), ("equal d e", "error name"))

    def test_join(self):
        desk = Desk(BRIDGE)
        self.answers(desk, ("keep a = 0: 1 t0 2", "ok"), ("keep b = 1: 3 t0' 4", "ok"), ("join a", "0: 1 t0 2"),
                     ("join a b", "0: 1 t0 5 t0' 4"), ("join a b a", "0: 1 t0 5 t0' 5 t0 2"), ("join a a", "error joined"),
                     ("join a c", "error name"), ("join a a c", "error name"), ("join b a b a b", "1: 3 t0' 5 t0 5 t0' 5 t0 5 t0' 4"))

    def test_ties(self):
        desk = Desk(BRIDGE)
        self.answers(desk, ("tie 0 1 5 -6", "tie 1"), ("tie   1   1 1000-1000   ", "tie 2"), ("tie 0 0 1 1", "tie 3"),
                     ("web", "2 rooms; 0 1 2 3; 0 1 5 -6; 1 1 1000 -1000; 0 0 1 1"), ("room", "room 2"),
                     ("tie 2 2 7 7", "tie 4"), ("cut 1", "ok"), ("web", "3 rooms; 0 1 2 3; 1 1 1000 -1000; 0 0 1 1; 2 2 7 7"),
                     ("cut 3", "ok"), ("cut 0", "ok"), ("web", "3 rooms; 1 1 1000 -1000; 0 0 1 1"))

    def test_ties_that_named_walks_cross(self):
        desk = Desk(TRIANGLE)
        self.answers(desk, ("keep a = 1: t3 1 t1 2", "ok"), ("cut 1", "error use"), ("cut 3", "error use"), ("cut 4", "error range"),
                     ("cut 9", "error range"), ("cut 0", "ok"), ("join a", "1: 0 t2 1 t0 2"), ("cut 0", "error use"), ("cut 1", "ok"),
                     ("plain a", "1: 0 t1 1 t0 2"), ("undo", "ok"), ("join a", "1: 0 t2 1 t0 2"))

    def test_rooms(self):
        desk = Desk(STILL)
        self.answers(desk, *[("room", f"room {number}") for number in range(1, 5)], ("room", "error many"), ("web", "5 rooms"))

    def test_groups(self):
        desk = Desk(EVEN)
        self.answers(desk, ("groups", ""), ("keep d = 0: 2 t0", "ok"), ("groups", "d"), ("keep a = 0: 4", "ok"),
                     ("keep c = 0: t0 2", "ok"), ("groups", "d c; a"), ("keep b = 0: t0", "ok"), ("groups", "d c; a; b"),
                     ("forget d", "ok"), ("groups", "a; c; b"))

    def test_undo_and_redo(self):
        desk = Desk(STILL)
        self.answers(desk, ("undo", "error undo"), ("redo", "error redo"), ("keep a = 0: 1", "ok"), ("room", "room 1"),
                     ("tie 0 1 1 2", "tie 0"), ("undo", "ok"), ("web", "2 rooms"), ("undo", "ok"), ("web", "1 rooms"),
                     ("groups", "a"), ("undo", "ok"), ("groups", ""), ("undo", "error undo"), ("redo", "ok"), ("groups", "a"),
                     ("redo", "ok"), ("redo", "ok"), ("redo", "error redo"), ("web", "2 rooms; 0 1 1 2"), ("undo", "ok"),
                     ("forget a", "ok"), ("redo", "error redo"))

    def test_the_keeper_may_be_changed_beside_the_lines(self):
        desk = Desk(STILL)
        desk.keeper.keep("Not a NAME", (0, 1, ()))
        desk.keeper.keep("b", (0, 1, ()))
        self.answers(desk, ("groups", "Not a NAME b"), ("plain b", "0: 1"), ("plain Not a NAME", "what"), ("undo", "ok"),
                     ("plain b", "error name"))


class FormsTest(DeskCase):
    def desk(self):
        desk = Desk(BRIDGE)
        for name in ("a", "b"):
            self.assertEqual(desk.line(f"keep {name} = 0: 1"), "ok")
        self.assertEqual(desk.line("room"), "room 2")
        self.assertEqual(desk.line("undo"), "ok")
        return desk

    def test_lines_of_no_form(self):
        self.wrong(self.desk(), "what", "", " ", "   ", "what", "Keep a = 0: 1", "keep", "keep ", "keepa = 0: 1", "forgets a", "WEB",
                   " web", " keep c = 0: 1", "webs", "web;", "help", "=", "a", "keep=", "undo=1", "tie1", "cut0", "undoredo",
                   "keep\\", "~", "0: 1", "2 rooms")

    def test_rest_that_must_be_empty(self):
        for word in ("room", "web", "groups", "undo", "redo"):
            for rest in ("  ", " a", " 1", "  a", " room", " ;", " " * 100):
                self.wrong(self.desk(), "what", word + rest)
            # One blank alone leaves nothing behind it.
            self.assertEqual(self.desk().line(word + " "), self.desk().line(word))
            self.assertNotEqual(self.desk().line(word), "what")

    def test_keep(self):
        self.wrong(self.desk(), "what", "keep = 0: 1", "keep  = 0: 1", "keep c 0: 1", "keep c", "keep c d = 0: 1", "keep c d=0: 1",
                   "keep 0: 1 = c", "keep C = 0: 1", "keep 1c = 0: 1", "keep c_ = 0: 1", "keep abcdefghi = 0: 1", "keep c. = 0: 1",
                   "keep cD = 0: 1", "keep =", "keep ==", "keep -c = 0: 1", "keep 0:1")
        self.answers(self.desk(), ("keep abcdefgh = 0: 1", "ok"), ("keep c=0: 1", "ok"), ("keep      d    =0: 1", "ok"))

    def test_the_walk_of_keep(self):
        self.wrong(self.desk(), "error text", "keep c =", "keep c = ", "keep c =    ", "keep c = 0", "keep c = 2: 1", "keep c = 0: t0'",
                   "keep c = 0: t1", "keep c == 0: 1", "keep c = 0: 1 =", "keep c = d = 0: 1", "keep c = x", "keep c = 0: 01")
        # The walk is read ahead of what is asked of the name.
        self.wrong(self.desk(), "error text", "keep a =", "keep a = 0: t1", "keep b = 7: 1")
        self.wrong(self.desk(), "error taken", "keep a = 0: 1", "keep b = 1: t0'", "keep   a=0:")
        # The form goes ahead of the walk.
        self.wrong(self.desk(), "what", "keep A =", "keep A = 0: t1")

    def test_the_blanks_of_the_walk_are_kept(self):
        desk = self.desk()
        line = "keep c =" + " " * 29996 + "0: 7"
        self.assertEqual(desk.line(line), "ok")
        self.wrong(desk, "error text", line.replace("c", "d").replace("=", "= "))
        self.assertEqual(desk.line("keep  d  =" + " " * 29996 + "0: 7"), "ok")

    def test_names(self):
        for word in ("forget", "plain"):
            self.wrong(self.desk(), "what", word, word + " ", word + "  a", word + " a ", word + " a b", word + " A", word + " 1a",
                       word + " a_", word + " abcdefghi", word + " a-b", word + " =", word + " a;")
            self.wrong(self.desk(), "error name", word + " c", word + " abcdefgh", word + " a1", word + " z9999999")
        self.wrong(self.desk(), "what", "equal", "equal ", "equal a", "equal a ", "equal  a b", "equal a  b", "equal a b ", "equal a b a",
                   "equal a B", "equal A a", "equal a,b", "equal a abcdefghi", "equal a 1")
        self.wrong(self.desk(), "what", "join", "join ", "join  a", "join a ", "join a  b", "join a b ", "join a A", "join a 1 b",
                   "join a, b", "join a abcdefghi", "join =")
        self.wrong(self.desk(), "error name", "equal a c", "equal c a", "join c", "join a b c", "join a b c a")

    def test_every_character_of_a_name(self):
        for character in map(chr, range(32, 127)):
            for name, right in ((character, character in string.ascii_lowercase),
                                ("a" + character, character in string.ascii_lowercase + string.digits)):
                desk = Desk(STILL)
                answer = desk.line(f"forget {name}")
                self.assertEqual(answer, "error name" if right else "what", name)
                if character not in " =":
                    self.assertEqual(desk.line(f"keep {name}=0:1"), "ok" if right else "what", name)

    def test_integers_of_ties(self):
        self.wrong(self.desk(), "error text", "tie", "tie ", "tie   ", "tie 0", "tie 0 1 1", "tie 0 1 1 1 1", "tie 0 2 1 1", "tie -1 0 1 1",
                   "tie 0 1 0 1", "tie 0 1 1 0", "tie 0 1 1001 1", "tie 0 1 1 -1001", "tie 00 1 1 1", "tie 0 1 01 1", "tie 0 1 -0 1",
                   "tie 0,1,1,1", "tie a", "tie 0 1 1 x", "tie rooms", "tie : 0 1 1 1", "tie t0 1 1 1", "tie 0 1 - 1 1", "tie 0 1 1.5 1",
                   "tie 0 1 1 " + "1" * 400, "tie 0 1 1 1 rooms", "tie 0 1 1 1" + " " * 30000)
        self.wrong(self.desk(), "what", "tie ;", "tie 0 1 1 1;", "tie 0 1 1 1; 0 1 1 1", "tie ; 0 1 1 1", "tie x ;", "tie 0 ; 1")
        self.answers(self.desk(), ("tie 0 1 1-1", "tie 1"), ("tie     0    1 1   1    ", "tie 2"), ("tie  1 0 1000 -1000", "tie 3"))

    def test_rooms_of_ties_are_those_of_the_web_as_it_is(self):
        desk = Desk(STILL)
        self.answers(desk, ("tie 0 1 1 1", "error text"), ("room", "room 1"), ("tie 0 1 1 1", "tie 0"), ("tie 2 1 1 1", "error text"),
                     ("undo", "ok"), ("undo", "ok"), ("tie 0 1 1 1", "error text"))

    def test_numbers(self):
        desk = self.desk()
        self.wrong(desk, "what", "cut", "cut ", "cut  0", "cut 0 ", "cut 00", "cut 01", "cut 10", "cut -1", "cut a", "cut t0", "cut 0 1", "cut ;",
                   "cut 0123456789", "cut +0")
        self.wrong(desk, "error range", *[f"cut {number}" for number in range(1, 10)])
        self.answers(desk, ("cut 0", "ok"), ("cut 0", "error range"))


class ErrorsTest(DeskCase):
    def test_too_many(self):
        desk = Desk(TURNING)
        self.wrong(desk, "error many", "keep a = 0:" + "t0" * 61)
        self.answers(desk, ("keep a = 0:" + "t0" * 60, "ok"))
        self.wrong(desk, "error many", "join a a")
        self.answers(desk, *[(f"keep n{i} = 0: {i}", "ok") for i in range(19)])
        self.wrong(desk, "error many", "keep n19 = 0: 1")
        # A taken name goes ahead of it, and the walk ahead of both.
        self.wrong(desk, "error taken", "keep n1 = 0: 1")
        self.wrong(desk, "error many", "keep n1 = 0:" + "t0" * 61)
        self.wrong(desk, "error text", "keep n19 = 0: 1 x")
        self.answers(desk, *[("tie 0 0 1 1", f"tie {i}") for i in range(1, 7)])
        self.wrong(desk, "error many", "tie 0 0 1 1")
        self.wrong(desk, "error text", "tie 0 1 1 1")
        self.answers(desk, *[("room", f"room {i}") for i in range(1, 5)])
        self.wrong(desk, "error many", "room")

    def test_too_great(self):
        desk = Desk(DOUBLING)
        self.answers(desk, (f"keep a = 0: {BOUND - 1} t0 0", "ok"), (f"keep b = 0: {BOUND - 1}", "ok"))
        self.wrong(desk, "error great", f"keep c = 0: {BOUND}", "plain a", "join b b", "join a b b", f"keep a = 0: {BOUND}")
        self.answers(desk, ("equal a b", "no"), ("plain b", "0: " + "9" * 300), ("join b a b", "error great"))

    def test_each_error_has_its_word(self):
        class Raising:
            def __init__(self, error):
                self.error = error

            def undo(self):
                raise self.error

        for error, word in ((BadText(1), "text"), (NameTaken("a"), "taken"), (UnknownName("a"), "name"), (InUse(1, "a"), "use"),
                            (NotJoined(0, 1), "joined"), (TooGreat("turns"), "great"), (TooMany("ties"), "many"),
                            (OutOfRange(1), "range"), (NothingToUndo(), "undo"), (NothingToRedo(), "redo")):
            desk = Desk(STILL)
            desk.keeper = Raising(error)
            self.assertEqual(desk.line("undo"), f"error {word}")

    def test_wrong_lines_change_nothing(self):
        chance = random.Random(3101)
        parts = ["keep", "forget", "plain", "equal", "join", "tie", "cut", "room", "web", "groups", "undo", "redo", "a", "b", "c1", "Z",
                 "=", "0: 1", "1: t1 2 t3", "0 1 2 3", "2 2 -1 5", "1", "0", ";", "", "x"]
        often = ("keep a = 0: 1", "keep a = 0: 1", "keep b = 1: t3", "keep b = 1: t3", "forget a", "undo", "redo", "equal a b",
                 "equal a a", "groups", "join b b", "cut 3", "cut 0", "tie 1 1 2 2", "plain b")
        asked = ("plain", "equal", "join", "web", "groups")
        seen = {}
        for _ in range(100):
            desk = Desk(TRIANGLE)
            for _ in range(20):
                line = " ".join([chance.choice(parts) for _ in range(chance.randint(1, 4))])
                if chance.random() < 0.6:
                    line = chance.choice(often)
                before = history(desk.keeper)
                answer = desk.line(line)
                self.assertIsInstance(answer, str)
                changed = history(desk.keeper) != before
                wrong = answer == "what" or answer.startswith("error") or line.split(" ")[0] in asked
                self.assertIs(changed, not wrong, line)
                seen[answer] = seen.get(answer, 0) + 1
        for answer in ("ok", "what", "yes", "no", "error text", "error taken", "error name", "error use", "error undo", "error redo"):
            self.assertGreater(seen.get(answer, 0), 0, answer)

    def test_lines_and_the_keeper_tell_the_same(self):
        chance = random.Random(3102)
        for web in ALL_WEBS * 2:
            desk, keeper = Desk(web), Keeper(web)
            for name in "abcde":
                walk = some_walk(chance, web, chance.randint(0, 5))
                self.assertEqual(desk.line(f"keep {name} = {walk_text(walk)}"), "ok")
                keeper.keep(name, walk)
            self.assertEqual(desk.keeper, keeper)
            for name in "abcde":
                self.assertEqual(read_walk(web, desk.line(f"plain {name}")), keeper.plain_of_name(name))
                for other in "abcde":
                    self.assertEqual(desk.line(f"equal {name} {other}"), "yes" if keeper.equal_names(name, other) else "no")
            self.assertEqual(desk.line("groups"), "; ".join(" ".join(names) for names in keeper.groups()))
