"""The least turn ([27]) and rules of turns ([28])."""

from math import gcd, lcm

from tubewords.completion import Completion
from tubewords.errors import TooGreat, TooMany
from tubewords.kinds import is_integer, is_tuple_of, is_tuple_up_to
from tubewords.turnorder import order_for, parts_for, primes_of
from tubewords.webs import piece_of

MOST_PRIMES = 4
MOST_TOLD_RULES = 100
MOST_RULES = 200
GREATEST_AMOUNT = 10 ** 60


def told_rules(web, room):
    """The told rules of the piece of a room."""
    return tuple(bounded_completion(web, room).told())


def bounded_completion(web, room):
    """The completed rules of the piece of a room, if there are not too many and they are not too great."""
    if len(primes_of(web, room)) > MOST_PRIMES:
        raise TooMany("primes")
    completion = Completion(web, room)
    rules = completion.told()
    if len(rules) > MOST_TOLD_RULES:
        raise TooMany("rules")
    if any([is_great_amount(m) or is_great_amount(l) for _, m, _, l in rules]):
        raise TooGreat("rules")
    return completion


def is_great_amount(number):
    """Whether a number is above the bound of rules."""
    return abs(number) > GREATEST_AMOUNT


def least_turn(web, room, turns):
    """The least turn of a turn."""
    if turns == 0:
        return (piece_of(web, room)[0], 0)
    if is_great_amount(turns):
        raise TooGreat("turns")
    return bounded_completion(web, room).least((room, turns))[0]


def brought_down(web, rules, room, turns):
    """The turn to which rules bring down a turn."""
    return brought_by(rules_by_room(rules), (room, turns), {})


def rules_by_room(rules):
    """The rules in lists by the rooms at which they can be used, each list in the order of the rules."""
    by_room = {}
    for rule in rules:
        if rule[0] not in by_room:
            by_room[rule[0]] = []
        by_room[rule[0]].append(rule)
    return by_room


def brought_by(by_room, turn, known):
    """The turn to which rules bring down a turn; known has such results, and gets those that are found."""
    passed = []
    rule = first_used(by_room, turn)
    while rule is not None and turn not in known:
        passed.append(turn)
        turn = led_by_rule(rule, turn[1])
        rule = first_used(by_room, turn)
    end = known.get(turn, turn)
    for earlier in passed:
        known[earlier] = end
    return end


def first_used(by_room, turn):
    """The first of the rules that is used at a turn, None if there is none."""
    for rule in by_room.get(turn[0], []):
        if is_used(rule, turn[1]):
            return rule
    return None


def is_used(rule, turns):
    """Whether a rule is used at turns, not 0, of its room."""
    v, m, w, l = rule
    if turns % m != 0:
        return False
    # What comes before stays so when both turns are multiplied, but for a rule that does nothing but turn signs.
    return v != w or l != -m or turns < 0


def led_by_rule(rule, turns):
    """The turn to which a rule leads turns of its room."""
    _, m, w, l = rule
    return (w, turns // m * l)


def are_complete(web, room, value):
    """Whether a value is a tuple of rules that is complete for the piece of a room."""
    if not is_tuple_up_to(value, MOST_RULES):
        return False
    piece = piece_of(web, room)
    primes = primes_of(web, room)
    if not all([is_rule(piece, primes, rule) for rule in value]):
        return False
    by_room = rules_by_room(value)
    known = {}
    return ties_agree(web, piece, by_room, known) and pairs_agree(by_room, known)


def is_rule(piece, primes, value):
    """Whether a value is a rule for a piece with these primes."""
    if not is_tuple_of(value, 4):
        return False
    v, m, w, l = value
    if not is_rule_turn(piece, primes, v, m) or not is_rule_turn(piece, primes, w, l):
        return False
    return order_for(primes, (w, l)) < order_for(primes, (v, m))


def is_rule_turn(piece, primes, room, turns):
    """Whether two values are the room and the turns of one side of a rule."""
    if not is_integer(room) or room not in piece or not is_integer(turns) or turns == 0:
        return False
    return not is_great_amount(turns) and parts_for(primes, turns)[1] == 1


def ties_agree(web, piece, by_room, known):
    """Whether rules bring down both sides of each tie of a piece to the same turn."""
    for v, w, p, q in web[1]:
        if v in piece:
            for sign in (1, -1):
                if brought_by(by_room, (v, sign * p), known) != brought_by(by_room, (w, sign * q), known):
                    return False
    return True


def pairs_agree(by_room, known):
    """Whether what each two rules of one room lead to is brought down to the same turn."""
    for rules in by_room.values():
        for number, rule in enumerate(rules):
            for other in rules[:number]:
                if not pair_agrees(by_room, rule, other, known):
                    return False
    return True


def pair_agrees(by_room, rule, other, known):
    """Whether what two rules of one room lead to is brought down to the same turn."""
    if are_apart(rule, other):
        return True
    both = lcm(rule[1], other[1])
    for turns in (both, -both):
        if is_used(rule, turns) and is_used(other, turns):
            led = led_by_rule(rule, turns)
            others = led_by_rule(other, turns)
            if led != others and brought_by(by_room, led, known) != brought_by(by_room, others, known):
                return False
    return True


def are_apart(rule, other):
    """Whether two rules, all in one room, can be used one behind the other in either order with the same result.

    If all other pairs agree, it then does not matter which rules are used, so that these two agree as well.
    """
    return rule[0] == rule[2] == other[2] and gcd(rule[1], other[1]) == 1
