import random
import unittest

from tests.samples import (
    ALL_WEBS, BRIDGE, DOUBLING, EVEN, FULL, KLEIN, LONE, MIRROR, MOST, OTHER_KINDS, PIECES, STILL, TRIANGLE, TURNING,
    WEBS, spoilt)
from tubewords.carryings import carrying_paper, shows_carrying
from tubewords.errors import TooGreat, TooMany
from tubewords.turnclasses import turn_class
from tubewords.turnorder import comes_before, primes_of, turn_parts
from tubewords.turnrules import are_complete, brought_down, least_turn, told_rules
from tubewords.webs import piece_of

BOUND = 10 ** 60

SQUARES = (1, ((0, 0, 2, 4), (0, 0, 3, 9)))
FLIP = (1, ((0, 0, 2, -2),))
ONES = (3, ((0, 1, 1, -1), (2, 2, 1, 1)))
FOUR_PRIMES = (1, ((0, 0, 30, 49),))
FIVE_PRIMES = (2, ((0, 1, 30, 77),))

# These have just 100 and just 101 told rules.
HUNDRED = (5, ((2, 2, 900, 84), (3, 3, 120, 196), (4, 2, 175, 512), (0, 4, 50, 432), (0, 3, 864, 192),
               (2, 2, 100, 15), (3, 0, 945, 800)))
TOO_MANY = (5, ((2, 2, 900, 84), (3, 3, 120, 81), (4, 2, 100, 189), (0, 4, 45, 432), (0, 3, 864, 270),
                (1, 3, 35, 320), (2, 4, 100, 15)))
# This one has 28 told rules, with amounts far above 10 ** 60.
TOO_GREAT = (4, ((0, 2, 961, 768), (2, 3, 1, 768), (1, 2, 3, 961), (0, 3, 768, 3), (0, 1, 81, 744)))
# In the first one of these the greatest amount is only led to, in the second one it is only led from.
GREAT_BELOW = (5, ((2, 0, 80, 147), (0, 0, 375, 686), (3, 1, 64, 420), (2, 1, 675, 700), (4, 3, 784, 729),
                   (3, 4, 196, 160), (1, 4, 168, 280)))
GREAT_ABOVE = (5, ((2, 0, 80, 147), (0, 0, 375, 686), (3, 1, 64, 420), (2, 1, 675, 700), (4, 3, 784, 729),
                   (3, 0, 196, 160), (1, 4, 168, 280)))
# And this one has 193, with such amounts as well.
MANY_AND_GREAT = (5, ((3, 1, 512, 729), (4, 3, 96, 997), (3, 4, 991, 576), (1, 1, 864, 48), (4, 0, 81, 576),
                      (0, 2, 729, 997), (0, 2, 1, 972)))


# In these the told rules come of pairs of rules that themselves come of pairs.
LATE = ((1, ((0, 0, 192, 16), (0, 0, 900, 81), (0, 0, 16, 40))), (1, ((0, 0, 5, 200), (0, 0, 50, 36))),
        (1, ((0, 0, 6, 40), (0, 0, -50, 336), (0, 0, 270, 784))), (1, ((0, 0, 120, 9), (0, 0, 800, 160))),
        (1, ((0, 0, 5, 486), (0, 0, -2, 189), (0, 0, 100, 175))))


def used_by_words(web, rule, turn):
    """The turn to which a rule leads, None if it is not used there."""
    v, m, w, l = rule
    if turn[0] != v or turn[1] % m:
        return None
    led = (w, turn[1] // m * l)
    return led if comes_before(web, led, turn) else None


def down_by_words(web, rules, turn):
    while True:
        for rule in rules:
            led = used_by_words(web, rule, turn)
            if led is not None:
                turn = led
                break
        else:
            return turn


def lcm(m, n):
    k = abs(m)
    while k % n:
        k += abs(m)
    return k


def complete_by_words(web, room, rules):
    piece = piece_of(web, room)
    for v, w, p, q in web[1]:
        if v in piece:
            for sign in (1, -1):
                if down_by_words(web, rules, (v, sign * p)) != down_by_words(web, rules, (w, sign * q)):
                    return False
    for i, one in enumerate(rules):
        for two in rules[:i]:
            if one[0] == two[0]:
                for c in (lcm(one[1], two[1]), -lcm(one[1], two[1])):
                    led = [used_by_words(web, rule, (one[0], c)) for rule in (one, two)]
                    if None not in led:
                        if down_by_words(web, rules, led[0]) != down_by_words(web, rules, led[1]):
                            return False
    return True


def some_web(chance, most=40):
    ends = [k for k in range(1, most + 1) if turn_parts(FOUR_PRIMES, 0, k)[1] == 1 and k % 7]
    rooms = chance.choice((1, 1, 2, 3))
    ties = []
    for _ in range(chance.randint(1, 4)):
        ties.append((chance.randrange(rooms), chance.randrange(rooms), chance.choice(ends) * chance.choice((1, 1, -1)),
                     chance.choice(ends) * chance.choice((1, 1, -1))))
    return (rooms, tuple(ties))


def some_webs(seed, many):
    chance = random.Random(seed)
    return list(ALL_WEBS + LATE) + [SQUARES, FLIP, ONES, FOUR_PRIMES] + [some_web(chance) for _ in range(many)]


class ToldRulesTest(unittest.TestCase):
    def test_examples_of_the_document(self):
        self.assertEqual(told_rules(SQUARES, 0), ((0, 4, 0, 2), (0, 9, 0, 3)))
        self.assertEqual(told_rules(FLIP, 0), ((0, -2, 0, 2),))

    def test_told_rules(self):
        self.assertEqual(told_rules(STILL, 0), ())
        self.assertEqual(told_rules(LONE, 2), ())
        self.assertEqual(told_rules(EVEN, 0), ())
        self.assertEqual(told_rules(DOUBLING, 0), ((0, 2, 0, 1),))
        self.assertEqual(told_rules(TURNING, 0), ((0, 3, 0, 2),))
        self.assertEqual(told_rules(MIRROR, 0), ((0, 3, 0, -2),))
        self.assertEqual(told_rules(BRIDGE, 1), ((1, 3, 0, 2),))
        self.assertEqual(told_rules(ONES, 0), ((1, 1, 0, -1),))
        self.assertEqual(told_rules(ONES, 2), ())
        self.assertEqual(told_rules(KLEIN, 0), ((0, -1, 0, 1),))

    def test_signs(self):
        # A turn and its opposite are carried into each other only from 2 turns on, and in room 1 from 3 on.
        web = (2, ((0, 0, 2, -2), (0, 1, 2, 3)))
        self.assertEqual(told_rules(web, 0), ((0, -2, 0, 2), (1, 3, 0, 2)))
        web = (2, ((0, 0, 4, -4), (0, 1, 2, 3)))
        self.assertEqual(told_rules(web, 1), ((0, -4, 0, 4), (1, 3, 0, 2)))
        # 10 turns in room 0 stand for their opposite, and so do the 6 turns in room 1 into which they are carried.
        web = (2, ((0, 0, 2, -2), (0, 1, 5, 3)))
        self.assertEqual(told_rules(web, 0), ((0, -2, 0, 2), (0, 5, 1, 3), (1, -6, 1, 6)))
        web = (3, ((0, 0, 2, -2), (0, 1, 5, 3), (1, 2, 7, 2)))
        self.assertEqual(told_rules(web, 0), ((0, -2, 0, 2), (0, 5, 1, 3), (1, -6, 1, 6), (1, 7, 2, 2), (2, -12, 2, 12)))
        # What is led to turns that stand for their opposite too is told above 0.
        self.assertEqual(told_rules((1, ((0, 0, 1, -1), (0, 0, -5, 2))), 0), ((0, -1, 0, 1), (0, 5, 0, 2)))
        self.assertEqual(told_rules((1, ((0, 0, 5, -2),)), 0), ((0, 5, 0, -2),))

    def test_the_whole_piece(self):
        for web in WEBS:
            for room in range(web[0]):
                for other in piece_of(web, room):
                    self.assertEqual(told_rules(web, other), told_rules(web, room))
        self.assertTrue({rule[0] for rule in told_rules(PIECES, 3)} <= {1, 3})

    def test_told_rules_by_their_definition(self):
        for web in some_webs(341, 80):
            for room in {piece_of(web, room)[0] for room in range(web[0])}:
                rules = told_rules(web, room)
                self.assertEqual(list(rules), sorted(rules, key=lambda rule: (rule[0], abs(rule[1]))))
                self.assertEqual(len({(v, m) for v, m, _, _ in rules}), len(rules))
                for v, m, w, l in rules:
                    self.assertEqual(turn_parts(web, v, m)[1], 1)
                    self.assertEqual(least_turn(web, v, m), (w, l))
                    self.assertNotEqual((v, m), (w, l))
                    self.assertTrue(m > 0 or least_turn(web, v, -m) == (v, -m))
                    for p in primes_of(web, room):
                        if m % p == 0:
                            self.assertEqual(least_turn(web, v, m // p), (v, m // p))

    def test_no_told_rule_is_missing(self):
        for web in some_webs(342, 40):
            rules = told_rules(web, 0)
            for v in piece_of(web, 0):
                for m in range(-60, 61):
                    if m and turn_parts(web, v, m)[1] == 1:
                        told = least_turn(web, v, m) != (v, m) and (m > 0 or least_turn(web, v, -m) == (v, -m))
                        for p in primes_of(web, 0):
                            told = told and (m % p != 0 or least_turn(web, v, m // p) == (v, m // p))
                        self.assertEqual((v, m) + least_turn(web, v, m) in rules, told, (web, v, m))

    def test_they_are_complete_and_lead_into_what_is_carried(self):
        for web in some_webs(343, 60):
            rules = told_rules(web, 0)
            self.assertTrue(complete_by_words(web, 0, rules), web)
            for v, m, w, l in rules:
                answer, paper = carrying_paper(web, (v, m, ()), (w, l, ()))
                self.assertIs(answer, True)
                self.assertIs(shows_carrying(web, (v, m, ()), (w, l, ()), True, paper), True)

    def test_4_and_5_primes(self):
        self.assertEqual(primes_of(FOUR_PRIMES, 0), (2, 3, 5, 7))
        self.assertEqual(told_rules(FOUR_PRIMES, 0), ((0, 30, 0, 49),))
        self.raises(FIVE_PRIMES, 1, TooMany, "primes")
        self.assertEqual(told_rules((3, FIVE_PRIMES[1] + ((2, 2, 2, 3),)), 2), ((2, 3, 2, 2),))

    def raises(self, web, room, error, what):
        with self.assertRaises(error) as caught:
            told_rules(web, room)
        self.assertEqual(caught.exception.what, what)
        with self.assertRaises(error) as caught:
            least_turn(web, room, -1)
        self.assertEqual(caught.exception.what, what)

    def test_100_and_101_rules(self):
        rules = told_rules(HUNDRED, 0)
        self.assertEqual(len(rules), 100)
        self.assertIs(are_complete(HUNDRED, 0, rules), True)
        for v, m, w, l in rules[::7]:
            self.assertEqual(least_turn(HUNDRED, v, m), (w, l))
        self.raises(TOO_MANY, 0, TooMany, "rules")

    def test_great_rules(self):
        for web in (TOO_GREAT, GREAT_ABOVE, GREAT_BELOW):
            self.raises(web, 0, TooGreat, "rules")

    def test_which_error_goes_first(self):
        self.raises(MANY_AND_GREAT, 0, TooMany, "rules")
        self.raises((5, TOO_GREAT[1] + ((0, 0, 7, 11), (0, 0, 13, 1))), 0, TooMany, "primes")
        self.raises((5, HUNDRED[1][:-1] + ((3, 0, 945, 11),)), 0, TooMany, "primes")


class LeastTurnTest(unittest.TestCase):
    def test_least_turns(self):
        self.assertEqual(least_turn(TURNING, 0, 9), (0, 4))
        self.assertEqual(least_turn(TURNING, 0, -45), (0, -20))
        self.assertEqual(least_turn(DOUBLING, 0, -56), (0, -7))
        self.assertEqual(least_turn(KLEIN, 0, -5), (0, 5))
        self.assertEqual(least_turn(FLIP, 0, -5), (0, -5))
        self.assertEqual(least_turn(FLIP, 0, -6), (0, 6))
        self.assertEqual(least_turn(BRIDGE, 1, 9), (0, 6))
        self.assertEqual(least_turn(BRIDGE, 1, 8), (1, 8))
        self.assertEqual(least_turn(STILL, 0, BOUND), (0, BOUND))

    def test_0_turns(self):
        self.assertEqual(least_turn(BRIDGE, 1, 0), (0, 0))
        self.assertEqual(least_turn(PIECES, 3, 0), (1, 0))
        self.assertEqual(least_turn(PIECES, 4, 0), (4, 0))
        for web in (FIVE_PRIMES, TOO_MANY, TOO_GREAT, MANY_AND_GREAT):
            self.assertEqual(least_turn(web, 1, 0), (0, 0))

    def test_the_first_member_of_finite_classes(self):
        chance = random.Random(344)
        seen = 0
        for web in some_webs(345, 60):
            for _ in range(8):
                room = chance.randrange(web[0])
                turns = chance.choice((1, -1)) * chance.randint(1, 150)
                kind, first = turn_class(web, room, turns)[:2]
                if kind == "finite":
                    seen += len(first) > 1
                    for turn in first:
                        self.assertEqual(least_turn(web, *turn), first[0], (web, turn))
        self.assertGreater(seen, 50)

    def test_two_members_of_an_endless_class(self):
        chance = random.Random(346)
        for web in some_webs(347, 60):
            for _ in range(5):
                room = chance.randrange(web[0])
                told = turn_class(web, room, chance.choice((1, -1)) * 2 ** chance.randint(0, 9) * chance.choice((1, 3)))
                if told[0] == "endless":
                    self.assertEqual(least_turn(web, *told[1]), least_turn(web, *told[2]))

    def test_it_comes_before_all_others(self):
        for web in some_webs(348, 20):
            for room in range(web[0]):
                for turns in range(-20, 21):
                    if turns:
                        least = least_turn(web, room, turns)
                        self.assertTrue(least == (room, turns) or comes_before(web, least, (room, turns)))
                        self.assertEqual(least_turn(web, *least), least)

    def test_turns_at_the_bound(self):
        for turns in (BOUND, -BOUND, 2 ** 199, -2 ** 199):
            rest = turns
            while rest % 2 == 0:
                rest //= 2
            self.assertEqual(least_turn(DOUBLING, 0, turns), (0, rest))
        for web in (DOUBLING, STILL, FIVE_PRIMES, TOO_MANY, TOO_GREAT, MANY_AND_GREAT):
            for turns in (BOUND + 1, -BOUND - 1, 2 ** 200, MOST):
                with self.assertRaises(TooGreat) as caught:
                    least_turn(web, 0, turns)
                self.assertEqual(caught.exception.what, "turns")
        with self.assertRaises(TooMany) as caught:
            least_turn(FIVE_PRIMES, 0, BOUND)
        self.assertEqual(caught.exception.what, "primes")


class BroughtDownTest(unittest.TestCase):
    def test_the_first_rule_that_is_used(self):
        rules = ((0, 4, 0, 3), (0, 2, 0, 1))
        self.assertEqual(brought_down(TURNING, rules, 0, 8), (0, 3))
        self.assertEqual(brought_down(TURNING, rules[::-1], 0, 8), (0, 1))
        self.assertEqual(brought_down(TURNING, (), 0, -8), (0, -8))
        self.assertEqual(brought_down(TURNING, rules, 0, 7), (0, 7))

    def test_rules_of_other_rooms(self):
        rules = ((1, 3, 0, 2), (0, 2, 0, 1))
        self.assertEqual(brought_down(BRIDGE, rules, 0, 3), (0, 3))
        self.assertEqual(brought_down(BRIDGE, rules, 1, -9), (0, -3))
        self.assertEqual(brought_down(BRIDGE, rules, 1, 2), (1, 2))

    def test_a_rule_is_not_used_if_what_it_leads_to_does_not_come_before(self):
        for rules in (((0, -2, 0, 2),), ((0, -2, 0, 2), (0, -2, 0, 2))):
            self.assertEqual(brought_down(FLIP, rules, 0, 4), (0, 4))
            self.assertEqual(brought_down(FLIP, rules, 0, -4), (0, 4))
            self.assertEqual(brought_down(FLIP, rules, 0, -10), (0, 10))
            self.assertEqual(brought_down(FLIP, rules, 0, -3), (0, -3))

    def test_rules_below_0(self):
        self.assertEqual(brought_down(TURNING, ((0, -3, 0, 2),), 0, 9), (0, 4))
        self.assertEqual(brought_down(TURNING, ((0, -3, 0, 2),), 0, 3), (0, -2))
        self.assertEqual(brought_down(TURNING, ((0, -3, 0, -2),), 0, -3), (0, -2))
        self.assertEqual(brought_down(ONES, ((1, -1, 0, 1),), 1, 5), (0, -5))

    def test_many_rules(self):
        chance = random.Random(349)
        for web in (TURNING, BRIDGE, TRIANGLE, FULL):
            for _ in range(30):
                rules = some_rules(chance, web, chance.randint(0, 6))
                for _ in range(6):
                    turn = (chance.randrange(web[0]), chance.choice((1, -1)) * chance.randint(1, 3000))
                    self.assertEqual(brought_down(web, rules, *turn), down_by_words(web, rules, turn), (rules, turn))

    def test_great_turns(self):
        self.assertEqual(brought_down(TURNING, ((0, 3, 0, 2),), 0, -7 * 3 ** 900), (0, -7 * 2 ** 900))


def some_rules(chance, web, many):
    """A tuple of rules for the piece of room 0."""
    rules = []
    while len(rules) < many:
        turns = []
        for _ in range(2):
            k = chance.choice((1, -1))
            for p in primes_of(web, 0):
                k *= p ** chance.randint(0, 2)
            turns.append((chance.choice(piece_of(web, 0)), k))
        if comes_before(web, turns[1], turns[0]):
            rules.append(turns[0] + turns[1])
    return tuple(rules)


class CompleteTest(unittest.TestCase):
    def test_complete_rules(self):
        self.assertIs(are_complete(SQUARES, 0, ((0, 4, 0, 2), (0, 9, 0, 3))), True)
        self.assertIs(are_complete(SQUARES, 0, ((0, 9, 0, 3), (0, 4, 0, 2))), True)
        self.assertIs(are_complete(SQUARES, 0, ((0, 4, 0, 2),)), False)
        self.assertIs(are_complete(SQUARES, 0, ()), False)
        self.assertIs(are_complete(STILL, 0, ()), True)
        self.assertIs(are_complete(EVEN, 0, ()), True)
        self.assertIs(are_complete(FLIP, 0, ((0, -2, 0, 2),)), True)
        self.assertIs(are_complete(FLIP, 0, ()), False)

    def test_rules_may_lead_to_other_turns(self):
        # They need not lead into what is carried into each other.
        self.assertIs(are_complete(SQUARES, 0, ((0, 2, 0, 1), (0, 3, 0, 1))), True)
        self.assertIs(are_complete(FLIP, 0, ((0, -1, 0, 1),)), True)
        self.assertIs(are_complete(TURNING, 0, ((0, 3, 0, 2), (0, 2, 0, 1))), True)

    def test_pairs_of_rules(self):
        # At (0, 6) one leads to (0, 3) and the other one to (0, 4), and then both to (0, 2).
        web = (1, ((0, 0, 2, 1), (0, 0, 3, 2)))
        self.assertIs(are_complete(web, 0, ((0, 2, 0, 1), (0, 3, 0, 2))), True)
        self.assertIs(are_complete(TURNING, 0, ((0, 9, 0, 4), (0, 3, 0, 2))), True)
        self.assertIs(are_complete(TURNING, 0, ((0, 9, 0, 8), (0, 3, 0, 2))), False)
        self.assertIs(are_complete(TURNING, 0, ((0, 3, 0, 2), (0, 6, 0, 2))), False)
        self.assertIs(are_complete(TURNING, 0, ((0, 3, 0, 2), (0, 9, 0, -4))), False)

    def test_pairs_of_rules_that_lead_to_other_rooms(self):
        # At (1, 6) one rule leads to (0, 3), and the other one to (1, 2), which is brought down to (0, 1).
        web = (2, ((1, 0, 2, 1), (1, 1, 3, 1)))
        for rules in (((1, 2, 0, 1), (1, 3, 1, 1)), ((1, 3, 1, 1), (1, 2, 0, 1))):
            self.assertIs(are_complete(web, 1, rules), False)
            self.assertIs(are_complete(web, 1, rules + ((0, 3, 0, 1),)), True)
            self.assertIs(are_complete(web, 1, ((0, 3, 0, 1),) + rules), True)
        # Here both lead to room 0.
        web = (2, ((1, 0, 2, 1), (1, 0, 3, 1)))
        self.assertIs(are_complete(web, 1, ((1, 2, 0, 1), (1, 3, 0, 1))), False)
        self.assertIs(are_complete(web, 1, ((1, 2, 0, 1), (1, 3, 0, 1), (0, 3, 0, 2))), True)
        # All stay in one room, and the numbers have no common divisor.
        web = (1, ((0, 0, 2, 1), (0, 0, 9, 3)))
        self.assertIs(are_complete(web, 0, ((0, 2, 0, 1), (0, 9, 0, 3))), True)
        self.assertIs(are_complete(web, 0, ((0, 4, 0, 1), (0, 2, 0, 1), (0, 9, 0, 3))), True)
        self.assertIs(are_complete(web, 0, ((0, 4, 0, 3), (0, 2, 0, 1), (0, 9, 0, 3))), False)

    def test_both_signs(self):
        self.assertIs(are_complete(MIRROR, 0, ((0, 3, 0, -2),)), True)
        self.assertIs(are_complete(MIRROR, 0, ((0, 3, 0, 2),)), False)
        # 3 is brought down as it must be, but -3 is not, as the first rule is used at -2 alone.
        self.assertIs(are_complete(TURNING, 0, ((0, -1, 0, 1), (0, 3, 0, 2))), True)
        web = (1, ((0, 0, 2, -2), (0, 0, 3, 1)))
        for rules in (((0, -2, 0, 2), (0, 3, 0, 1)), ((0, 3, 0, 1), (0, -2, 0, 2))):
            self.assertIs(are_complete(web, 0, rules), True)
        self.assertIs(are_complete(web, 0, ((0, -4, 0, 4), (0, 3, 0, 1))), False)
        self.assertIs(are_complete(web, 0, ((0, -6, 0, 6), (0, 3, 0, 1), (0, -2, 0, 2))), True)
        self.assertIs(are_complete(web, 0, ((0, -3, 0, 1), (0, 3, 0, 1), (0, -2, 0, 2))), False)

    def test_other_pieces_do_not_matter(self):
        self.assertIs(are_complete(PIECES, 4, told_rules(PIECES, 4)), True)
        self.assertIs(are_complete(PIECES, 4, told_rules(PIECES, 4) + ((1, 5, 1, 2),)), False)
        self.assertIs(are_complete(PIECES, 1, told_rules(PIECES, 3)), True)
        self.assertIs(are_complete(PIECES, 2, ()), True)

    def test_many_rules(self):
        chance = random.Random(350)
        counts = {True: 0, False: 0}
        for web in (TURNING, BRIDGE, FLIP, SQUARES, KLEIN, TRIANGLE, (1, ((0, 0, 1, 2), (0, 0, 3, 2)))):
            for _ in range(60):
                rules = some_rules(chance, web, chance.randint(0, 4))
                if chance.random() < 0.5:
                    rules = rules[:2] + told_rules(web, 0)
                expected = complete_by_words(web, 0, rules)
                counts[expected] += 1
                self.assertIs(are_complete(web, 0, rules), expected, (web, rules))
        self.assertGreater(min(counts.values()), 40)

    def test_200_and_201_rules(self):
        rules = ((0, 3, 0, 2),)
        for many in (1, 2, 199, 200):
            self.assertIs(are_complete(TURNING, 0, rules * many), True)
        for many in (201, 202, 400):
            self.assertIs(are_complete(TURNING, 0, rules * many), False)
        different = tuple((0, 3 ** i * 2 ** j, 0, 3 ** (i - 1) * 2 ** (j + 1)) for i in range(1, 21) for j in range(10))
        self.assertEqual(len(different), 200)
        self.assertIs(are_complete(TURNING, 0, different), True)
        self.assertIs(are_complete(TURNING, 0, different[::-1]), True)
        self.assertIs(are_complete(TURNING, 0, different + ((0, 3 ** 21, 0, 2 ** 21),)), False)
        self.assertIs(are_complete(TURNING, 0, different[:-1] + ((0, 3 ** 21, 0, 2 ** 20),)), False)

    def test_amounts_at_the_bound(self):
        web = (1, ((0, 0, 10, 1),))
        self.assertIs(are_complete(web, 0, ((0, 10, 0, 1), (0, BOUND, 0, 1))), True)
        self.assertIs(are_complete(web, 0, ((0, 10, 0, 1), (0, -BOUND, 0, -1))), True)
        self.assertIs(are_complete(web, 0, ((0, 10, 0, 1), (0, 10 * BOUND, 0, 1))), False)
        self.assertIs(are_complete(web, 0, ((0, 10, 0, 1), (0, -10 * BOUND, 0, -1))), False)
        self.assertIs(are_complete(web, 0, ((0, 10, 0, 1), (0, 2 * BOUND, 0, 2))), False)
        # 5 ** 86 is above the bound, but of lesser weight than 2 ** 199.
        web = (1, ((0, 0, 1, 1), (0, 0, 2, 2), (0, 0, 5, 5)))
        self.assertIs(are_complete(web, 0, ((0, 2 ** 199, 0, 5 ** 85),)), True)
        self.assertIs(are_complete(web, 0, ((0, 2 ** 199, 0, 5 ** 86),)), False)
        self.assertIs(are_complete(web, 0, ((0, 2 ** 200, 0, 5),)), False)

    def test_turns_with_another_rest(self):
        for rule in ((0, 5, 0, 1), (0, 15, 0, 10), (0, 5, 0, 2), (0, 7, 0, 5), (0, 3, 0, 0), (0, 0, 0, 1)):
            self.assertIs(are_complete(TURNING, 0, ((0, 3, 0, 2), rule)), False, rule)

    def test_turns_that_do_not_come_before(self):
        for rule in ((0, 2, 0, 3), (0, 3, 0, 3), (0, 2, 0, -2), (0, 1, 0, 2), (0, 4, 0, 6), (0, 2, 0, 4)):
            self.assertIs(are_complete(TURNING, 0, ((0, 3, 0, 2), rule)), False, rule)
        self.assertIs(are_complete(BRIDGE, 0, ((1, 3, 0, 2), (0, 1, 1, 1))), False)
        self.assertIs(are_complete(BRIDGE, 0, ((1, 3, 0, 2), (1, 1, 0, 1))), False)
        self.assertIs(are_complete(BRIDGE, 0, ((1, 1, 0, 1), (0, 3, 0, 2))), True)

    def test_rooms_that_are_none_of_the_piece(self):
        for room in (-1, 1, 2, 4, 5, 7):
            self.assertIs(are_complete(PIECES, 4, told_rules(PIECES, 4) + ((room, 3, 4, 1),)), False)
            self.assertIs(are_complete(PIECES, 4, told_rules(PIECES, 4) + ((4, 3, room, 1),)), False)

    def test_other_kinds(self):
        for value in OTHER_KINDS:
            if value != ():
                self.assertIs(are_complete(STILL, 0, value), False, value)
                self.assertIs(are_complete(TURNING, 0, ((0, 3, 0, 2), value)), False, value)
        for rule in ((0, 3, 0), (0, 3, 0, 2, 1), "0302", ("0", 3, 0, 2), (0, "3", 0, 2), (0, 3, None, 2), (0, 3, 0, "2"),
                     ((0, 3), (0, 2)), (0, 3, 0, (2,))):
            self.assertIs(are_complete(TURNING, 0, ((0, 3, 0, 2), rule)), False, rule)

    def test_true_and_false_are_no_integers(self):
        web = (2, ((0, 0, 2, 1), (0, 1, 1, 1)))
        self.assertIs(are_complete(web, 0, ((0, 2, 0, 1), (1, 1, 0, 1))), True)
        for rules in (((False, 2, 0, 1), (1, 1, 0, 1)), ((0, 2, False, 1), (1, 1, 0, 1)),
                      ((0, 2, 0, True), (1, 1, 0, 1)), ((0, 2, 0, 1), (True, 1, 0, 1)),
                      ((0, 2, 0, 1), (1, True, 0, 1)), ((0, 2, 0, 1), (1, 1, 0, True))):
            self.assertIs(are_complete(web, 0, rules), False, rules)

    def test_spoilt_rules(self):
        rules = ((1, 3, 0, 2), (0, -4, 0, 4))
        web = (2, ((0, 1, 2, 3), (0, 0, 4, -4)))
        self.assertIs(are_complete(web, 0, rules), True)
        for path, value in spoilt(rules):
            if path == () and isinstance(value, tuple) and value not in ((rules[0],), ()) and value[-1] is not None:
                continue
            self.assertIs(are_complete(web, 0, value), False, (path, value))
