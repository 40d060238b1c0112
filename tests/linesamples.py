"""Walks that go on, and what the tests of their lines share."""

import random

from tests.samples import (
    DOUBLING, EVEN, KLEIN, MIRROR, PAIR, TRIANGLE, TURNING, back, ends, joined, led, numbers, plain_by_words, shrunk,
    some_closed, some_walk)

MINUS = (1, ((0, 0, 2, -2),))
TWO_TIES = (1, ((0, 0, 2, 2), (0, 0, 3, -3)))
HALVES = (2, ((0, 1, 2, 3), (0, 1, 4, 6)))
TURNED = (2, ((0, 1, 1, -1), (0, 1, 1, 1)))
LINE_WEBS = (TURNING, DOUBLING, EVEN, KLEIN, MIRROR, MINUS, TWO_TIES, HALVES, TURNED, PAIR, TRIANGLE,
             (1, ((0, 0, 1, 1), (0, 0, 1, -1))), (1, ((0, 0, 4, 4), (0, 0, 6, 9))))

E = (0, 0, ((0, 1, 0),))
BOUND = 10 ** 60


def power(web, walk, count):
    """A closed walk joined to itself, its opposite for a count below 0."""
    if count < 0:
        walk, count = back(web, walk), -count
    result = (walk[0], 0, ())
    for _ in range(count):
        result = joined(result, walk)
    return result


def length(web, walk):
    once = plain_by_words(web, walk)
    return max(0, len(plain_by_words(web, joined(once, once))[2]) - len(once[2]))


def going_in(web, seed, many, size=5, most=4):
    """Closed walks that go on, some of them powers of others, with plain walks of at most 24 steps."""
    chance = random.Random(seed)
    found = []
    for _ in range(40 * many):
        walk = some_closed(chance, web, size, None, most)
        if length(web, walk) and chance.random() < 0.6:
            v = some_walk(chance, web, chance.randint(0, 2), walk[0], most)
            walk = joined(back(web, v), power(web, walk, chance.choice((1, 2, 2, 3, -2, 4))), v)
        plain = plain_by_words(web, walk)
        if length(web, walk) and len(plain[2]) <= 24 and len(walk[2]) <= 60 and len(found) < many:
            found.append(walk)
    return found


def line_of(web, walk, periods):
    """The places of a line, from so many periods ahead of the nearest one to so many behind it, in a list."""
    once = plain_by_words(web, walk)
    twice = plain_by_words(web, joined(once, once))
    near = (2 * len(once[2]) - len(twice[2])) // 2
    ways = tuple((r, t, s) for r, (t, s, _) in zip(numbers(once), once[2]))
    period = [(walk[0], ways[:i]) for i in range(near, near + length(web, walk))]
    places = []
    for count in range(-periods, periods):
        places += [led(web, power(web, once, count), place) for place in period]
    return places


def move_on_line(web, places, other):
    """By how many places another walk moves those of a long part of a line, None if not all are moved alike.

    Where it moves them by as much as half of the part, None is told as well.
    """
    half = len(places) // 2
    at = {place: i for i, place in enumerate(places)}
    move = None
    for i in range(half // 2, half + half // 2):
        moved = led(web, other, places[i])
        if moved not in at or move not in (None, at[moved] - i):
            return None
        move = at[moved] - i
    return move


def is_idle(web, walk):
    return shrunk(web, walk) == (walk[0], 0, ())


def share_sign(web, walk):
    """The share of a walk if it is 1 or -1, 0 otherwise."""
    above = below = 1
    for t, s, _ in walk[2]:
        _, _, ahead, behind = ends(web, t, s)
        above, below = above * behind, below * ahead
    return above // below if abs(above) == abs(below) else 0
