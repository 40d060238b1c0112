import random
import unittest

from tests.linesamples import going_in
from tests.samples import (
    ALL_WEBS, BOUND, BRIDGE, DOUBLING, EVEN, KLEIN, OTHER_KINDS, PAIR, PIECES, STILL, TRIANGLE, TURNING, back, closed_in,
    joined, plain_by_words, same, some_closed, some_walk, spoilt)
from tests.spansamples import place_behind, some_product, tables_in
from tests.test_readers import given_in, is_folded_by_words, reads_by_words
from tubewords.carryings import are_carried, carrying_paper, shows_carrying
from tubewords.errors import NotClosed, NotInOne, NotJoined, TooGreat, TooMany, WebError
from tubewords.papers import is_equality_paper
from tubewords.readers import span_reader
from tubewords.shown import answer_to, certified, is_certified
from tubewords.spans import in_span, same_span, shows_in_span, span_paper

E = (0, 0, ((0, 1, 0),))
OPEN = (0, 0, ((0, 1, 0),))
QUESTIONS = (
    (TURNING, ("equal", (0, 2, ((0, 1, 3), (0, -1, 4))), (0, 8, ()))),
    (TURNING, ("equal", (0, 2, ((0, 1, 3), (0, -1, 4))), (0, 9, ()))),
    (BRIDGE, ("equal", (0, 2, OPEN[2]), (0, 0, ((0, 1, 3),)))),
    (EVEN, ("carried", (0, 0, ((0, 1, 1), (0, 1, 0))), (0, 0, ((0, 1, 0), (0, 1, 1))))),
    (EVEN, ("carried", (0, 0, ((0, 1, 1),)), (0, 0, ((0, 1, 2),)))),
    (TURNING, ("carried", (0, 4, ()), (0, 9, ()))),
    (TURNING, ("carried", (0, 4, ()), (0, 5, ()))),
    (TURNING, ("carried", (0, 4, ()), E)),
    (PIECES, ("carried", (0, 4, ()), (4, 4, ()))),
    (STILL, ("carried", (0, 4, ()), (0, 0, ()))),
    ((1, ((0, 0, 2, 4), (0, 0, 3, 9))), ("carried", (0, 2, ()), (0, 3, ()))),
    (EVEN, ("commute", E, (0, 2, ()))),
    (EVEN, ("commute", E, (0, 1, ()))),
    (EVEN, ("in span", 0, ((0, 2, ()), E), (0, 6, ((0, -1, 4),)))),
    (EVEN, ("in span", 0, ((0, 2, ()), E), (0, 5, ((0, -1, 4),)))),
    (BRIDGE, ("in span", 0, ((0, 1, ()),), (1, 0, ()))),
    (EVEN, ("same span", 0, ((0, 2, ()), E), ((0, 6, ()), (0, 4, ()), (0, 2, ((0, 1, 0),))))),
    (EVEN, ("same span", 0, ((0, 2, ()), E), ((0, 6, ()), (0, 2, ((0, 1, 0),))))),
    (EVEN, ("same span", 0, ((0, 6, ()), (0, 2, ((0, 1, 0),))), ((0, 2, ()), E))),
    (EVEN, ("same span", 0, ((0, 2, ()),), (E,))),
    (STILL, ("same span", 0, (), ((0, 0, ()),))),
    (STILL, ("same span", 0, (), ((0, 1, ()),))),
)


def is_right(web, question, answer, certificate):
    """[66] once more, for answers that are right, by what shows papers and readers."""
    kind, *asked = question
    if kind == "equal":
        return is_equality_paper(web, *asked, certificate)
    if kind == "carried":
        return shows_carrying(web, *asked, answer, certificate)
    if kind == "commute":
        return is_equality_paper(web, joined(*asked), joined(*asked[::-1]), certificate)
    if kind == "in span" and answer:
        return shows_in_span(web, *asked, certificate)
    if kind == "same span" and answer:
        room, first, second = asked
        rows = ((second, first), (first, second))
        return len(certificate) == 2 and all(
            len(papers) == len(walks) and all(shows_in_span(web, room, given, *row) for row in zip(walks, papers))
            for (given, walks), papers in zip(rows, certificate))
    room = asked[0]
    if certificate[0][0][0] != room or not is_folded_by_words(web, certificate):
        return False
    if kind == "in span":
        return all(reads_by_words(web, certificate, walk) for walk in asked[1]) and not reads_by_words(web, certificate, asked[2])
    reads = [all(reads_by_words(web, certificate, walk) for walk in walks) for walks in asked[1:]]
    return reads[0] != reads[1]


class ShownCase(unittest.TestCase):
    def check(self, web, question, expected=None):
        answer = answer_to(web, question)
        self.assertIsInstance(answer, bool)
        if expected is not None:
            self.assertIs(answer, expected)
        told = certified(web, question)
        self.assertIsInstance(told, tuple)
        self.assertEqual(told[0], answer)
        self.assertIsInstance(told[0], bool)
        self.assertTrue(is_right(web, question, *told), (web, question, told))
        self.assertIs(is_certified(web, question, *told), True)
        self.assertIs(is_certified(web, question, not answer, told[1]), False)
        return told

    def wrong(self, web, question, answer, *values):
        for value in values:
            self.assertIs(is_certified(web, question, answer, value), False, (question, value))

    def raises(self, error, attributes, function, *arguments):
        with self.assertRaises(WebError) as caught:
            function(*arguments)
        self.assertIs(type(caught.exception), error)
        self.assertEqual(tuple(vars(caught.exception).values()), attributes)

    def all_raise(self, error, attributes, web, question):
        """Whatever the answer and the certificate may be."""
        self.raises(error, attributes, answer_to, web, question)
        self.raises(error, attributes, certified, web, question)
        for answer in (True, False):
            for value in (None, (), ("equal", ())):
                self.raises(error, attributes, is_certified, web, question, answer, value)


class AnswersTest(ShownCase):
    def test_answers(self):
        expected = (True, False, True, True, False, True, False, False, False, False, False, True, False, True, False, False,
                    True, False, False, False, True, False)
        for (web, question), answer in zip(QUESTIONS, expected):
            self.check(web, question, answer)
        self.assertEqual(len(expected), len(QUESTIONS))

    def test_equal(self):
        chance = random.Random(3001)
        for web in ALL_WEBS * 5:
            walk = some_walk(chance, web, chance.randint(0, 8))
            other = some_walk(chance, web, 4, walk[0])
            spelled = joined(other, back(web, other), walk)
            self.check(web, ("equal", walk, spelled), True)
            self.check(web, ("equal", walk, plain_by_words(web, spelled)), True)
            self.check(web, ("equal", walk, other), same(web, walk, other))

    def test_carried(self):
        chance = random.Random(3002)
        for web in ALL_WEBS * 4:
            walk = some_closed(chance, web, 4)
            other = some_closed(chance, web, 4)
            way = some_walk(chance, web, 3, walk[0])
            brought = joined(back(web, way), walk, way)
            self.check(web, ("carried", walk, brought), True)
            self.check(web, ("carried", walk, other), are_carried(web, walk, other))

    def test_commute(self):
        chance = random.Random(3003)
        counts = {True: 0, False: 0}
        for web in ALL_WEBS * 12:
            walk = some_closed(chance, web, 3)
            other = some_closed(chance, web, 3, walk[0])
            if chance.random() < 0.4:
                other = joined(walk, walk)
            expected = same(web, joined(walk, other), joined(other, walk))
            counts[expected] += 1
            self.check(web, ("commute", walk, other), expected)
        self.assertGreater(min(counts.values()), 15)

    def test_in_span(self):
        chance = random.Random(3004)
        counts = {True: 0, False: 0}
        for web, room, given, table, _ in tables_in(3005, 60):
            for _ in range(3):
                walk = some_closed(chance, web, 4, room)
                if sum(len(other[2]) for other in given + (walk,)) <= 60:
                    expected = place_behind(web, table, walk) == 0
                    counts[expected] += 1
                    self.check(web, ("in span", room, given, walk), expected)
        self.assertGreater(min(counts.values()), 30)
        for web, room, given in given_in(3006, 80):
            self.check(web, ("in span", room, given, some_product(chance, web, room, given, 2)), True)

    def test_same_span(self):
        chance = random.Random(3007)
        counts = {True: 0, False: 0}
        for web, room, given in given_in(3008, 150):
            walks = list(given)
            if walks and chance.random() < 0.6:
                # Other walks for the same span.
                at = chance.randrange(len(walks))
                others = [walk for i, walk in enumerate(walks) if i != at]
                walks[at] = joined(walks[at], *[chance.choice((walk, back(web, walk))) for walk in others[:1]])
                walks.append((room, 0, ()))
            else:
                walks.append(some_closed(chance, web, 3, room))
            if sum(len(walk[2]) for walk in given) + sum(len(walk[2]) for walk in walks) <= 30:
                told = self.check(web, ("same span", room, given, tuple(walks)))
                self.check(web, ("same span", room, tuple(walks), given), told[0])
                counts[told[0]] += 1
        self.assertGreater(min(counts.values()), 15)


class CertificatesTest(ShownCase):
    def test_those_of_other_questions(self):
        told = [certified(web, question) for web, question in QUESTIONS]
        for i, (web, question) in enumerate(QUESTIONS):
            answer = told[i][0]
            for j, (_, certificate) in enumerate(told):
                try:
                    expected = is_right(web, question, answer, certificate)
                except (TypeError, IndexError, ValueError, AttributeError, KeyError):
                    expected = False
                if i == j:
                    self.assertTrue(expected)
                elif question[0] != QUESTIONS[j][1][0] or not expected:
                    if question[0] in ("in span", "same span") and not answer:
                        # A reader may be right for more than one question.
                        continue
                    self.wrong(web, question, answer, certificate)

    def test_values_of_any_kind(self):
        for web, question in QUESTIONS:
            answer, certificate = certified(web, question)
            for value in OTHER_KINDS + (0, 1, "equal", ("equal",), ("equal", None), ("unlike", None, None), ("plan",), ("plan", ()),
                                        ("rules",), ("on", 0), ("unlike",), ("idle",), (("idle",), ()), ((), ()), (((0, 0),),),
                                        ((None, None), None), (certificate,), certificate + (0,)):
                if value != certificate and not (question[0] == "same span" and value == ((), ())):
                    self.wrong(web, question, answer, value)
                self.wrong(web, question, not answer, value)

    def test_spoilt_certificates(self):
        for web, question in QUESTIONS:
            answer, certificate = certified(web, question)
            for path, value in spoilt(certificate):
                try:
                    expected = is_right(web, question, answer, value)
                except (TypeError, IndexError, ValueError, AttributeError, KeyError):
                    expected = False
                if not expected:
                    self.wrong(web, question, answer, value)

    def test_wrong_ones_of_the_same_kind(self):
        self.wrong(TURNING, QUESTIONS[0][1], True, ("equal", ()), ("equal", (("carry", 1, 1),)), ("unlike", (), ()))
        self.wrong(TURNING, QUESTIONS[1][1], False, ("unlike", (), ()), ("equal", ()))
        self.wrong(TURNING, ("carried", (0, 4, ()), (0, 9, ())), True, ("plan", ((0, ()),)), ("plan", ((0, (("cross", 0, 1),)),)))
        self.wrong(TURNING, ("carried", (0, 4, ()), (0, 5, ())), False, ("unlike", "pieces"), ("unlike", "going"), ("rules", ()))
        self.wrong(EVEN, ("carried", (0, 0, ((0, 1, 1), (0, 1, 0))), (0, 0, ((0, 1, 0), (0, 1, 1)))), True, ("on", 0, 0), ("on", 1, 1))
        question = ("in span", 0, ((0, 2, ()), E), (0, 4, ()))
        self.wrong(EVEN, question, True, (("given", 0),), (("idle",),), (("given", 0), ("power", 0, 3)))
        self.assertIs(is_certified(EVEN, question, True, (("given", 0), ("power", 0, 2))), True)

    def test_readers(self):
        question = ("in span", 0, ((0, 4, ()),), (0, 2, ()))
        for reader, right in (((((0, 4),), ()), True), ((((0, 2),), ()), False), ((((0, 8),), ()), False), ((((0, 0),), ()), False),
                              ((((0, 4),), ((0, 0, 1, 0, 0, 0),)), True), ((((0, 4),), ((0, 0, 1, 0, 0, 0), (0, 0, 1, 2, 0, 0))), False),
                              ((((0, 3),), ()), False)):
            self.assertIs(is_certified(EVEN, question, False, reader), right, reader)
        # Not only plain readers are right: a needless cell may be there, and turns may be any.
        web, question = (2, ((0, 1, 2, 1),)), ("in span", 1, ((1, 2, ()),), (1, 1, ()))
        for reader, right in (((((1, 2),), ()), True), ((((1, 2), (0, 4)), ((0, 0, -1, 7, 1, 9),)), True),
                              ((((1, 2), (0, 2)), ((0, 0, -1, 7, 1, 9),)), False), ((((0, 4), (1, 2)), ((0, 0, 1, 0, 1, 0),)), False),
                              ((((0, 4),), ()), False)):
            self.assertIs(is_certified(web, question, False, reader), right, reader)

    def test_the_room_of_cell_0(self):
        # The reader reads no walk at room 0, and so all of no walks.
        question = ("same span", 0, (), ((0, 1, ()),))
        self.assertIs(is_certified(BRIDGE, question, False, (((0, 0),), ())), True)
        self.wrong(BRIDGE, question, False, (((1, 0),), ()), (((1, 1),), ()))
        question = ("in span", 0, (), (0, 1, ()))
        self.assertIs(is_certified(BRIDGE, question, False, (((0, 0),), ())), True)
        self.wrong(BRIDGE, question, False, (((1, 0),), ()), (((1, 1),), ()))

    def test_papers_for_both_spans(self):
        first, second = ((0, 2, ()), (0, 3, ())), ((0, 1, ()),)
        question = ("same span", 0, first, second)
        there = tuple([span_paper(STILL, 0, second, walk) for walk in first])
        home = tuple([span_paper(STILL, 0, first, walk) for walk in second])
        self.assertIs(is_certified(STILL, question, True, (there, home)), True)
        self.wrong(STILL, question, True, (home, there), (there[::-1], home), (there + there[:1], home), (there[:1], home),
                   (there, ()), (there,), (there, home, home), (None, home), (there, (None,)), ((), ()))
        self.assertIs(is_certified(STILL, ("same span", 0, second, first), True, (home, there)), True)
        self.assertIs(is_certified(STILL, ("same span", 0, (), ()), True, ((), ())), True)

    def test_readers_that_read_one_and_not_the_other(self):
        question = ("same span", 0, ((0, 2, ()),), ((0, 4, ()),))
        for lot, right in ((4, True), (2, False), (1, False), (3, False), (0, False)):
            self.assertIs(is_certified(STILL, question, False, (((0, lot),), ())), right)
        question = ("same span", 0, ((0, 4, ()), (0, 0, ())), ((0, 6, ()),))
        for lot, right in ((4, True), (2, False), (6, True), (12, False), (3, True)):
            self.assertIs(is_certified(STILL, question, False, (((0, lot),), ())), right)

    def test_wrong_answers(self):
        for web, question in QUESTIONS:
            answer, certificate = certified(web, question)
            self.wrong(web, question, not answer, certificate, None, ("equal", ()))


class RaisesTest(ShownCase):
    def test_equal(self):
        # The answer raises nothing; the maker of the paper does.
        walk = (0, BOUND - 1, ((0, 1, 0),))
        question = ("equal", walk, (0, BOUND - 2, ((0, 1, 2),)))
        self.assertIs(answer_to(DOUBLING, question), True)
        self.raises(TooGreat, ("turns",), certified, DOUBLING, question)
        self.assertIs(is_certified(DOUBLING, question, True, None), False)
        self.assertIs(is_certified(DOUBLING, question, True, ("equal", (("carry", 1, 1),))), True)

    def test_carried(self):
        open_walk = (0, 0, ((0, 1, 0),))
        self.all_raise(NotClosed, (open_walk,), BRIDGE, ("carried", open_walk, open_walk))
        self.all_raise(NotClosed, (open_walk,), BRIDGE, ("carried", (0, 1, ()), open_walk))
        great = (0, 10 ** 61, ())
        question = ("carried", great, (0, 2 * 10 ** 61, ()))
        self.all_raise(TooGreat, ("turns",), (1, ((0, 0, 2, 4),)), question)

    def test_commute(self):
        open_walk = (0, 0, ((0, 1, 0),))
        self.all_raise(NotClosed, (open_walk,), BRIDGE, ("commute", (0, 1, ()), open_walk))
        self.all_raise(NotJoined, (0, 1), BRIDGE, ("commute", (0, 1, ()), (1, 1, ())))
        self.all_raise(TooMany, ("steps",), EVEN, ("commute", (0, 0, ((0, 1, 0),) * 25), E))
        self.all_raise(TooGreat, ("turns",), EVEN, ("commute", (0, 10 ** 60 + 1, ()), E))

    def test_commute_where_the_walks_joined_are_too_long(self):
        # Their plain walks are short, but not the walks as they are written.
        long = (0, 0, ((0, 1, 0), (0, -1, 0)) * 20)
        question = ("commute", long, long)
        self.assertIs(answer_to(EVEN, question), True)
        self.raises(TooMany, ("steps",), certified, EVEN, question)
        # A wrong answer goes ahead.
        self.assertIs(is_certified(EVEN, question, False, ("equal", ())), False)
        self.raises(TooMany, ("steps",), is_certified, EVEN, question, True, ("equal", ()))
        self.raises(TooMany, ("steps",), is_certified, EVEN, question, True, None)
        # Turns that become too great where one walk ends and the other one begins.
        web = (1, ((0, 0, 1, 1),))
        first, second = (0, 1 - BOUND, ((0, 1, BOUND - 1),)), (0, BOUND - 1, ((0, -1, 1 - BOUND),))
        question = ("commute", first, second)
        self.assertIs(answer_to(web, question), True)
        self.raises(TooGreat, ("turns",), certified, web, question)
        self.assertIs(is_certified(web, question, False, None), False)
        self.raises(TooGreat, ("turns",), is_certified, web, question, True, None)

    def test_given_walks(self):
        open_walk, long = (0, 0, ((0, 1, 0),)), (0, 0, ((0, 1, 0),) * 31)
        for kind, more in (("in span", (0, 0, ())), ("same span", ())):
            self.all_raise(TooMany, ("walks",), BRIDGE, (kind, 0, (open_walk,) * 13, more))
            self.all_raise(NotInOne, (1,), BRIDGE, (kind, 0, ((0, 1, ()), (1, 1, ()), open_walk), more))
            self.all_raise(NotClosed, (open_walk,), BRIDGE, (kind, 0, ((0, 1, ()), open_walk, (1, 1, ())), more))
            self.all_raise(TooMany, ("steps",), EVEN, (kind, 0, (long, long), more))
        self.all_raise(NotInOne, (1,), BRIDGE, ("same span", 0, ((0, 1, ()),), ((1, 1, ()),)))
        # Those of the first tuple go ahead of those of the second one.
        self.all_raise(NotClosed, (open_walk,), BRIDGE, ("same span", 0, (open_walk,), ((1, 1, ()),)))

    def test_span_papers_that_are_too_long(self):
        given, walk = ((0, 0, ((0, 1, 0),) * 30),), (0, 0, ((0, 1, 0),) * 60)
        question = ("in span", 0, given, walk)
        self.assertIs(answer_to(EVEN, question), True)
        self.raises(TooMany, ("steps",), certified, EVEN, question)
        self.assertIs(is_certified(EVEN, question, True, (("given", 0), ("joined", 0, 0))), True)
        # For a walk that is not in the span nothing is too long.
        self.check(EVEN, ("in span", 0, given, walk[:2] + (walk[2][1:],)), False)
        question = ("same span", 0, given, ((0, 0, ((0, -1, 0),) * 30), walk))
        self.raises(TooMany, ("steps",), certified, EVEN, question[:3] + ((question[3][0], walk[:2] + (walk[2][:30],)),))
        self.assertIs(answer_to(EVEN, ("same span", 0, given, (back(EVEN, given[0]),))), True)
        self.check(EVEN, ("same span", 0, given, (back(EVEN, given[0]),)), True)


class SomeMoreTest(ShownCase):
    def test_walks_that_go_on_and_their_powers(self):
        for web in (TURNING, KLEIN, PAIR, TRIANGLE):
            for walk in going_in(web, 3009, 6):
                walk = plain_by_words(web, walk)
                twice = joined(walk, walk)
                if len(walk[2]) <= 12:
                    self.check(web, ("commute", walk, twice), True)
                self.check(web, ("in span", walk[0], (walk,), twice), True)
                self.check(web, ("same span", walk[0], (walk,), (back(web, walk),)), True)
                self.check(web, ("same span", walk[0], (walk,), (twice,)), same_span(web, walk[0], (walk,), (twice,)))

    def test_what_the_makers_tell_may_be_passed(self):
        for web in (TURNING, BRIDGE, EVEN):
            for walk in closed_in(web, 3010, 6, 4, 0):
                other = joined((0, 3, ()), walk, (0, -3, ()))
                self.assertIs(is_certified(web, ("carried", walk, other), *carrying_paper(web, walk, other)), True)
                if not in_span(web, 0, (walk,), (0, 1, ())):
                    reader = span_reader(web, 0, (walk,))
                    self.assertIs(is_certified(web, ("in span", 0, (walk,), (0, 1, ())), False, reader), True)
