import random
import re
import unittest

from tests.samples import ALL_WEBS, BOUND, BRIDGE, FULL, LONE, PIECES, STILL, TRIANGLE, TURNING, ends, some_walk
from tests.spansamples import some_web, tables_in
from tests.test_counts import webs_in
from tubewords.errors import BadText, TooGreat, TooMany
from tubewords.ownwebs import own_web
from tubewords.plainwalks import plain_walk
from tubewords.sources import sources_at
from tubewords.texts import read_walk, read_web, walk_text, web_text

TOKEN = re.compile(r"rooms|;|:|[0-9]+|-[0-9]+|t[0-9]+'?")
INTEGER = re.compile(r"0|-?[1-9][0-9]{0,300}")


def cut(text):
    """The tokens with their places, or the place of the first character that begins none."""
    found, at = [], 0
    while at < len(text):
        match = TOKEN.match(text, at)
        if text[at] == " ":
            at += 1
        elif match is None:
            return at
        else:
            found.append((match.group(), at))
            at = match.end()
    return found


def web_by_words(text):
    """The web of a text, or the place of BadText."""
    if len(text) > 30000:
        return 30000
    tokens = cut(text)
    if isinstance(tokens, int):
        return tokens
    ties, numbers, rooms = [], [], None
    for i, (token, place) in enumerate(tokens):
        number = int(token) if INTEGER.fullmatch(token) else None
        if i == 0:
            if number not in range(1, 6):
                return place
            rooms = number
        elif i == 1:
            if token != "rooms":
                return place
        elif (i - 2) % 5 == 0:
            if token != ";" or len(ties) == 7:
                return place
            numbers = []
        else:
            at = (i - 2) % 5
            if number is None or (number not in range(rooms) if at <= 2 else not 1 <= abs(number) <= 1000):
                return place
            numbers.append(number)
            if at == 4:
                ties.append(tuple(numbers))
    if len(tokens) < 2 or (len(tokens) - 2) % 5:
        return len(text)
    return (rooms, tuple(ties))


def walk_by_words(web, text):
    """The walk of a text, of any size, or the place of BadText."""
    if len(text) > 30000:
        return 30000
    tokens = cut(text)
    if isinstance(tokens, int):
        return tokens
    room, first, steps, at = None, 0, [], None
    for i, (token, place) in enumerate(tokens):
        number = int(token) if INTEGER.fullmatch(token) else None
        if i == 0:
            if number not in range(web[0]):
                return place
            room = at = number
        elif i == 1:
            if token != ":":
                return place
        elif number is not None:
            if steps:
                steps[-1][2] += number
            else:
                first += number
        elif re.fullmatch("t[0-9]'?", token) and int(token[1]) < len(web[1]):
            step = [int(token[1]), -1 if token.endswith("'") else 1, 0]
            begin, end, _, _ = ends(web, *step[:2])
            if begin != at:
                return place
            at = end
            steps.append(step)
        else:
            return place
    return (room, first, tuple(map(tuple, steps))) if len(tokens) >= 2 else len(text)


class TextCase(unittest.TestCase):
    def bad_web(self, text, place):
        self.assertEqual(web_by_words(text), place, text[:80])
        with self.assertRaises(BadText) as caught:
            read_web(text)
        self.assertEqual(caught.exception.place, place, text[:80])

    def bad_walk(self, web, text, place):
        self.assertEqual(walk_by_words(web, text), place, text[:80])
        with self.assertRaises(BadText) as caught:
            read_walk(web, text)
        self.assertEqual(caught.exception.place, place, text[:80])

    def web(self, text, web):
        self.assertEqual(web_by_words(text), web)
        self.assertEqual(read_web(text), web)

    def walk(self, web, text, walk):
        self.assertEqual(walk_by_words(web, text), walk)
        self.assertEqual(read_walk(web, text), walk)


class WrittenTest(TextCase):
    def test_the_examples_of_the_document(self):
        self.assertEqual(web_text((2, ((0, 1, 2, -3),))), "2 rooms; 0 1 2 -3")
        self.assertEqual(walk_text((0, 3, ((1, 1, -2), (0, -1, 5)))), "0: 3 t1 -2 t0' 5")

    def test_texts(self):
        self.assertEqual(web_text(STILL), "1 rooms")
        self.assertEqual(web_text((5, ())), "5 rooms")
        self.assertEqual(web_text((3, ((0, 2, 1000, -1000), (1, 1, -1, 1)))), "3 rooms; 0 2 1000 -1000; 1 1 -1 1")
        self.assertEqual(walk_text((4, 0, ())), "4: 0")
        self.assertEqual(walk_text((0, -7, ((6, -1, 0),))), "0: -7 t6' 0")
        self.assertEqual(walk_text((0, BOUND - 1, ((0, 1, 1 - BOUND),))), "0: " + "9" * 300 + " t0 -" + "9" * 300)

    def test_read_back(self):
        chance = random.Random(2801)
        for web in webs_in(2802, 100):
            self.web(web_text(web), web)
            for most in (9, BOUND - 1):
                walk = some_walk(chance, web, chance.randint(0, 60), most=most)
                if all(abs(k) < BOUND for _, _, k in walk[2]):
                    self.walk(web, walk_text(walk), walk)

    def test_what_the_package_tells(self):
        for web in ALL_WEBS:
            for room in range(web[0]):
                for walk in sources_at(web, room):
                    self.walk(web, walk_text(walk), walk)
                    self.walk(web, walk_text(plain_walk(web, walk)), plain_walk(web, walk))
        for web, room, given, _, _ in tables_in(2803, 30):
            try:
                own = own_web(web, room, given)
            except TooMany:
                continue
            self.web(web_text(own), own)


class BlanksTest(TextCase):
    def test_blanks_everywhere_and_nowhere(self):
        web = (2, ((0, 1, 2, -3), (1, 1, -4, 10)))
        self.web("2rooms;0 1 2-3;1 1-4 10", web)
        self.web("  2   rooms  ;   0   1  2   -3  ; 1  1  -4    10    ", web)
        self.web("1rooms", STILL)
        self.web(" 1 rooms ", STILL)
        self.walk(web, "0:3t0-2t1'5t0'", (0, 3, ((0, 1, -2), (1, -1, 5), (0, -1, 0))))
        self.walk(web, "   0   :  3   t0   -2  t1'   5  t0'    ", (0, 3, ((0, 1, -2), (1, -1, 5), (0, -1, 0))))
        self.walk(web, "0:", (0, 0, ()))
        self.walk(web, " 1 : ", (1, 0, ()))

    def test_no_blank_in_tokens(self):
        self.bad_web("1 r ooms", 2)
        self.bad_web("1 rooms; 0 0 - 1 1", 13)
        self.bad_walk(TURNING, "0: t 0", 3)
        self.bad_walk(TURNING, "0: - 1", 3)
        self.bad_walk(TURNING, "0: t0 '", 6)
        self.bad_walk(TURNING, "0: t0 1 2 '", 10)

    def test_tokens_are_as_long_as_they_can_be(self):
        self.walk(TURNING, "0:1-2-3", (0, -4, ()))
        self.walk(TURNING, "0:1t0't0'2t0", (0, 1, ((0, -1, 0), (0, -1, 2), (0, 1, 0))))
        self.bad_walk(TURNING, "0: t01", 3)
        self.bad_web("12 rooms", 0)
        self.web("2rooms;1 0 12-12", (2, ((1, 0, 12, -12),)))


class IntegersTest(TextCase):
    def test_301_and_302_digits(self):
        most = 10 ** 301 - 1
        self.walk(TURNING, f"0: {most} -{most}", (0, 0, ()))
        self.walk(TURNING, f"0: -{most} {most - 5} t0 4", (0, -5, ((0, 1, 4),)))
        for digits in ("1" * 302, "1" + "0" * 301, "9" * 1000, "7" * 29000):
            self.bad_walk(TURNING, f"0: 1 {digits}", 5)
            self.bad_walk(TURNING, f"0: 1 -{digits} 1", 5)
            self.bad_web(f"1 rooms; 0 0 1 {digits}", 15)
            self.bad_web(f"{digits} rooms", 0)
        with self.assertRaises(TooGreat):
            read_walk(TURNING, f"0: {most}")
        self.bad_web(f"1 rooms; 0 0 1 {most}", 15)

    def test_leading_zeros(self):
        for text in ("00", "01", "-01", "-0", "-00", "007", "0000001"):
            self.bad_walk(TURNING, f"0: 5 {text}", 5)
            self.bad_walk(TURNING, f"{text}: 5", 0)
            self.bad_web(f"2 rooms; 0 1 {text} 1", 13)
            self.bad_web(f"2 rooms; {text} 1 1 1", 9)
            self.bad_web(f"{text} rooms", 0)
        self.bad_walk(TURNING, "0: t00", 3)
        self.walk(TURNING, "0: 0 0 0", (0, 0, ()))
        self.walk(TURNING, "0: 10 -20 100", (0, 90, ()))

    def test_integers_that_follow_one_another(self):
        self.walk(TURNING, "0: 1 2 3 t0 4 5 -6 t0' 7 t0 t0 8 -8", (0, 6, ((0, 1, 3), (0, -1, 7), (0, 1, 0), (0, 1, 0))))
        self.walk(TURNING, "0:" + " 1" * 10000, (0, 10000, ()))


class BadTokensTest(TextCase):
    def test_characters_that_begin_no_token(self):
        for text, place in (("-", 0), ("t", 0), ("'", 0), ("0: -", 3), ("0: t", 3), ("0: '", 3), ("0: t0''", 6), ("0: 1'", 4),
                            ("0: --1", 3), ("0: 1-", 4), ("0: t-1", 3), ("0: T0", 3), ("0, 1", 1), ("0: 1.5", 4), ("0: +1", 3),
                            ("room", 0), ("0: roomss", 8), ("0: 1 2 ~", 7), ("!", 0), ("0: t0't", 6), ("0: tt0", 3),
                            ("0: 1_000", 4), ("0: 'rooms", 3), ("0: rt0", 3), ("0: r", 3)):
            self.bad_walk(TURNING, text, place)
            self.bad_web(text, place)

    def test_they_come_ahead_of_tokens_that_cannot_stand(self):
        self.bad_walk(TURNING, "rooms 00 t99 ; x", 15)
        self.bad_walk(TURNING, "9: t5 -", 6)
        self.bad_web("9 9 t0 : 0000 '", 14)
        self.bad_web("7 rooms; ; ?", 11)
        self.bad_web("t1 t", 3)

    def test_30000_and_30001_characters(self):
        self.web("1 rooms" + " " * 29993, STILL)
        self.bad_web("1 rooms" + " " * 29994, 30000)
        self.walk(TURNING, " " * 29996 + "0: 7", (0, 7, ()))
        self.bad_walk(TURNING, " " * 29997 + "0: 7", 30000)
        for text in ("x" * 30001, " " * 30001, "0: " + "1" * 30000, "?" * 100000):
            self.bad_web(text, 30000)
            self.bad_walk(TURNING, text, 30000)
        self.bad_web("x" * 30000, 0)
        self.bad_walk(TURNING, " " * 29999 + "x", 29999)
        self.bad_walk(TURNING, " " * 30000, 30000)

    def test_texts_that_end_too_early(self):
        for end in ("", " ", "     "):
            for text in ("", "2", "2 rooms;", "2 rooms; 0", "2 rooms; 0 1", "2 rooms; 0 1 5", "2 rooms; 0 1 5 5;"):
                self.bad_web(text + end, len(text + end))
            for text in ("", "0"):
                self.bad_walk(TURNING, text + end, len(text + end))


class WebTest(TextCase):
    def test_rooms(self):
        for rooms in range(1, 6):
            self.web(f"{rooms} rooms", (rooms, ()))
        for text in ("0 rooms", "6 rooms", "-1 rooms", "10 rooms"):
            self.bad_web(text, 0)
        self.bad_web("rooms", 0)
        self.bad_web("1: rooms", 1)
        self.bad_web("1 2 rooms", 2)
        self.bad_web("1 rooms rooms", 8)
        self.bad_web("1 rooms 0 0 1 1", 8)
        self.bad_web("t1 rooms", 0)

    def test_rooms_of_ties(self):
        self.web("3 rooms; 2 0 1 1", (3, ((2, 0, 1, 1),)))
        for text, place in (("3 rooms; 3 0 1 1", 9), ("3 rooms; 2 3 1 1", 11), ("3 rooms; -1 0 1 1", 9), ("3 rooms; 0 -1 1 1", 11),
                            ("1 rooms; 1 0 1 1", 9), ("3 rooms; t0 0 1 1", 9), ("3 rooms; rooms", 9), ("3 rooms; : 0 1 1", 9)):
            self.bad_web(text, place)

    def test_ends(self):
        self.web("1 rooms; 0 0 1000 -1000", (1, ((0, 0, 1000, -1000),)))
        for text, place in (("1 rooms; 0 0 0 1", 13), ("1 rooms; 0 0 1 0", 15), ("1 rooms; 0 0 1001 1", 13), ("1 rooms; 0 0 1 -1001", 15),
                            ("1 rooms; 0 0 ; 1", 13), ("1 rooms; 0 0 1;", 14), ("1 rooms; 0 0 t0 1", 13), ("1 rooms; 0 0 1 t0'", 15),
                            ("1 rooms; 0 0 1 1 1", 17), ("1 rooms; 0 0 1 1 rooms", 17)):
            self.bad_web(text, place)

    def test_an_eighth_tie(self):
        seven = "1 rooms" + "; 0 0 1 2" * 7
        self.web(seven, (1, ((0, 0, 1, 2),) * 7))
        for more in ("; 0 0 1 2", ";", " ;", "  ; 9 9 9 9 9 :", " 0", " t0"):
            self.bad_web(seven + more, len(seven) + len(more) - len(more.lstrip()))
        self.bad_web("1 rooms" + "; 0 0 1 2" * 7 + " ; x", len(seven) + 3)

    def test_by_words(self):
        chance = random.Random(2804)
        parts = ["1", "2", "0", "0", "1", "-3", "rooms", ";", ";", ":", "t0", "1000", "1001", "00", " ", " ", "x", "-"]
        seen = {True: 0, False: 0}
        for _ in range(4000):
            text = web_text(some_web(chance))
            for _ in range(chance.randint(0, 2)):
                at = chance.randint(0, len(text))
                text = text[:at] + chance.choice(parts) + text[at + chance.randint(0, 2):]
            expected = web_by_words(text)
            seen[isinstance(expected, int)] += 1
            if isinstance(expected, int):
                self.bad_web(text, expected)
            else:
                self.web(text, expected)
        self.assertGreater(min(seen.values()), 1000)


class WalkTest(TextCase):
    def test_rooms(self):
        for web in (STILL, LONE, FULL):
            for room in range(web[0]):
                self.walk(web, f"{room}: 1", (room, 1, ()))
            self.bad_walk(web, f"{web[0]}: 1", 0)
            self.bad_walk(web, "-1: 1", 0)
        for text, place in ((": 1", 0), ("0 1", 2), ("0 0: 1", 2), ("0; 1", 1), ("rooms: 1", 0), ("t0: 1", 0), ("0:: 1", 2),
                            ("0: 1: 2", 4), ("0: 1 rooms", 5), ("0: ;", 3)):
            self.bad_walk(TURNING, text, place)

    def test_crossings(self):
        self.walk(BRIDGE, "0: t0 t0' t0", (0, 0, ((0, 1, 0), (0, -1, 0), (0, 1, 0))))
        for text, place in (("0: t0'", 3), ("1: t0", 3), ("0: t0 t0", 6), ("0: t0 5 t0' t0' 3", 12), ("0: t1", 3), ("0: t9'", 3),
                            ("0: t10", 3), ("0: t00", 3), ("0: t0 7 t10'", 8), ("0: t0 t" + "1" * 400, 6)):
            self.bad_walk(BRIDGE, text, place)
        self.bad_walk(STILL, "0: t0", 3)
        self.bad_walk(PIECES, "0: t3 t3' t2 1", 10)
        self.walk(PIECES, "4: t1 t1' 2", (4, 0, ((1, 1, 0), (1, -1, 2))))
        self.walk(TRIANGLE, "0: t0 t1 t2 t2' 3", (0, 0, ((0, 1, 0), (1, 1, 0), (2, 1, 0), (2, -1, 3))))

    def test_60_and_61_steps(self):
        self.walk(TURNING, "0:" + "t0" * 60, (0, 0, ((0, 1, 0),) * 60))
        for count in (61, 62, 5000):
            with self.assertRaises(TooMany) as caught:
                read_walk(TURNING, "0:" + "t0" * count)
            self.assertEqual(caught.exception.what, "steps")
        self.bad_walk(TURNING, "0:" + "t0" * 61 + "t1", 124)
        self.bad_walk(TURNING, "0:" + "t0" * 61 + "-0", 124)

    def test_turns_of_300_figures_and_beyond(self):
        most = BOUND - 1
        self.walk(TURNING, f"0: {most} t0 -{most}", (0, most, ((0, 1, -most),)))
        for text in (f"0: {BOUND}", f"0: -{BOUND}", f"0: t0 {BOUND}", f"0: {most} 1", f"0: t0 -{most} -1 t0 5", f"0: {BOUND} t0 0"):
            with self.assertRaises(TooGreat) as caught:
                read_walk(TURNING, text)
            self.assertEqual(caught.exception.what, "turns")
        self.walk(TURNING, f"0: {BOUND} -1", (0, most, ()))
        # Steps go ahead of turns, a bad token ahead of both.
        with self.assertRaises(TooMany):
            read_walk(TURNING, f"0: {BOUND} " + "t0" * 61)
        self.bad_walk(TURNING, f"0: {BOUND} " + "t0" * 61 + ":", 305 + 122)

    def test_by_words(self):
        chance = random.Random(2805)
        parts = ["1", "0", "-3", "rooms", ";", ":", "t0", "t0'", "t1", "t1'", "t2", "00", " ", " ", "x", "-", "t", "'"]
        seen = {True: 0, False: 0}
        for _ in range(4000):
            web = chance.choice(ALL_WEBS)
            text = walk_text(some_walk(chance, web, chance.randint(0, 6)))
            for _ in range(chance.randint(0, 2)):
                at = chance.randint(0, len(text))
                text = text[:at] + chance.choice(parts) + text[at + chance.randint(0, 2):]
            expected = walk_by_words(web, text)
            seen[isinstance(expected, int)] += 1
            if isinstance(expected, int):
                self.bad_walk(web, text, expected)
            else:
                self.walk(web, text, expected)
        self.assertGreater(min(seen.values()), 1000)
