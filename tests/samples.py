"""Webs, walks and places to test with, and what the document says, told once more in the plainest way.

Nothing here calls the package: what it returns is compared with this.
"""

import random

BOUND = 10 ** 300
MOST = BOUND - 1

TURNING = (1, ((0, 0, 2, 3),))
DOUBLING = (1, ((0, 0, 1, 2),))
EVEN = (1, ((0, 0, 2, 2),))
MIRROR = (1, ((0, 0, -2, 3),))
KLEIN = (1, ((0, 0, 1, -1),))
BRIDGE = (2, ((0, 1, 2, 3),))
TRIANGLE = (3, ((0, 1, 2, -3), (1, 2, 4, 6), (2, 0, -1, 5), (1, 1, 2, 4)))
PAIR = (2, ((0, 1, -4, 6), (1, 0, 3, -2), (0, 0, 1, -1)))
PIECES = (5, ((3, 1, 2, 5), (4, 4, -3, 3), (1, 3, -2, 2), (0, 0, 1, 6)))
FULL = (5, ((0, 1, 2, 3), (1, 2, -2, 2), (2, 3, 1, -1), (3, 4, 6, 4), (4, 0, 5, -5), (2, 2, 1, 2), (4, 2, -1, 3)))
STILL = (1, ())
LONE = (4, ())

WEBS = (TURNING, DOUBLING, EVEN, MIRROR, KLEIN, BRIDGE, TRIANGLE, PAIR, PIECES, FULL)
ALL_WEBS = WEBS + (STILL, LONE)

OTHER_KINDS = (True, False, None, "", "1", "carry", (), (1,), ((), "x", None), ((((True,),),),))


def ends(web, tie, side):
    v, w, p, q = web[1][tie]
    return (v, w, p, q) if side == 1 else (w, v, q, p)


def ways(web, room):
    return [(t, s) for t in range(len(web[1])) for s in (1, -1) if ends(web, t, s)[0] == room]


def last_room(web, walk):
    return ends(web, *walk[2][-1][:2])[1] if walk[2] else walk[0]


def joined(*walks):
    result = walks[0]
    for walk in walks[1:]:
        if result[2]:
            t, s, k = result[2][-1]
            result = (result[0], result[1], result[2][:-1] + ((t, s, k + walk[1]),) + walk[2])
        else:
            result = (result[0], result[1] + walk[1], walk[2])
    return result


def back(web, walk):
    result = (last_room(web, walk), 0, ())
    for t, s, k in reversed(walk[2]):
        result = joined(result, (ends(web, t, s)[1], -k, ((t, -s, 0),)))
    return joined(result, (walk[0], -walk[1], ()))


def numbers(walk):
    return [walk[1]] + [k for _, _, k in walk[2]]


def turned_part(web, walk):
    """The first i such that step i can be taken away with the next one, None if there is none."""
    ks = numbers(walk)
    for i in range(1, len(walk[2])):
        (t, s, k), (u, z, _) = walk[2][i - 1], walk[2][i]
        if t == u and s == -z and ks[i] % ends(web, t, s)[3] == 0:
            return i
    return None


def shrunk(web, walk):
    """An equal walk from which nothing can be taken away, no step being kept in any special form."""
    i = turned_part(web, walk)
    while i is not None:
        ks = numbers(walk)
        t, s, k = walk[2][i - 1]
        _, _, ahead, behind = ends(web, t, s)
        ks[i - 1:i + 2] = [ks[i - 1] + k // behind * ahead + ks[i + 1]]
        crossings = [step[:2] for step in walk[2][:i - 1] + walk[2][i + 1:]]
        walk = (walk[0], ks[0], tuple((t, s, k) for (t, s), k in zip(crossings, ks[1:])))
        i = turned_part(web, walk)
    return walk


def same(web, first, second):
    """Whether two walks are equal: they are if one and the opposite of the other shrink to nothing."""
    if first[0] != second[0] or last_room(web, first) != last_room(web, second):
        return False
    return shrunk(web, joined(first, back(web, second))) == (first[0], 0, ())


def is_plain_by_words(web, walk):
    ks = numbers(walk)
    for i, (t, s, k) in enumerate(walk[2]):
        if not 0 <= ks[i] < abs(ends(web, t, s)[2]):
            return False
        if i + 1 < len(walk[2]) and k == 0 and walk[2][i + 1][:2] == (t, -s):
            return False
    return True


def plain_by_words(web, walk):
    """The plain walk, found by mending the first thing that keeps the walk from being plain."""
    while not is_plain_by_words(web, walk):
        ks = numbers(walk)
        steps = [step[:2] for step in walk[2]]
        for i, (t, s) in enumerate(steps):
            _, _, ahead, behind = ends(web, t, s)
            if not 0 <= ks[i] < abs(ahead):
                m = (ks[i] - ks[i] % abs(ahead)) // ahead
                ks[i] -= ahead * m
                ks[i + 1] += behind * m
                break
            if i + 1 < len(steps) and ks[i + 1] == 0 and steps[i + 1] == (t, -s):
                ks[i:i + 3] = [ks[i] + ks[i + 2]]
                del steps[i:i + 2]
                break
        walk = (walk[0], ks[0], tuple((t, s, k) for (t, s), k in zip(steps, ks[1:])))
    return walk


def some_walk(chance, web, size, room=None, most=9):
    """A walk of about so many steps that often turns back."""
    room = chance.randrange(web[0]) if room is None else room
    start = room
    steps = []
    for _ in range(size):
        out = ways(web, room)
        if not out:
            break
        t, s = chance.choice(out)
        if steps and chance.random() < 0.4:
            t, s = steps[-1][0], -steps[-1][1]
        room = ends(web, t, s)[1]
        k = chance.randint(-most, most)
        if chance.random() < 0.5:
            k = ends(web, t, s)[3] * chance.randint(-2, 2)
        steps.append((t, s, k))
    return (start, chance.randint(-most, most), tuple(steps))


def some_closed(chance, web, size, room=None, most=9):
    """A closed walk of at most so many steps."""
    while True:
        walk = some_walk(chance, web, chance.randint(0, size), room, most)
        if last_room(web, walk) == walk[0]:
            return walk


def walks_in(web, seed, many, size=8):
    chance = random.Random(seed)
    return [some_walk(chance, web, chance.randint(0, size)) for _ in range(many)]


def closed_in(web, seed, many, size=8, room=None):
    chance = random.Random(seed)
    return [some_closed(chance, web, size, room) for _ in range(many)]


def to_place(place):
    """The walk to a place."""
    ks = [r for r, _, _ in place[1]] + [0]
    return (place[0], ks[0], tuple((t, s, k) for (_, t, s), k in zip(place[1], ks[1:])))


def place_by_words(web, walk):
    plain = plain_by_words(web, walk)
    return (plain[0], tuple((r, t, s) for r, (t, s, _) in zip(numbers(plain), plain[2])))


def places_up_to(web, base, size):
    """All places of a base with at most so many ways, those with fewer ways first."""
    rows = [[(base, ())]]
    for _ in range(size):
        longer = []
        for _, taken in rows[-1]:
            room = ends(web, *taken[-1][1:])[1] if taken else base
            for t, s in ways(web, room):
                for r in range(abs(ends(web, t, s)[2])):
                    if not (r == 0 and taken and taken[-1][1:] == (t, -s)):
                        longer.append((base, taken + ((r, t, s),)))
        rows.append(longer)
    return [place for row in rows for place in row]


def apart(first, second):
    """The distance of two places of one base."""
    equal = 0
    while first[1][:equal + 1] == second[1][:equal + 1] and equal < min(len(first[1]), len(second[1])):
        equal += 1
    return len(first[1]) + len(second[1]) - 2 * equal


def led(web, walk, place):
    return place_by_words(web, joined(walk, to_place(place)))


def least_passing(web, crossings):
    """The toll (M, K) of crossings, found by trying one M after the other."""
    m = 1
    while True:
        k = m
        for t, s in crossings:
            _, _, ahead, behind = ends(web, t, s)
            if k % ahead:
                break
            k = k // ahead * behind
        else:
            return (m, k)
        m += 1


def spoilt(value, path=()):
    """Pairs (path, value) of all values that come of a nested tuple by putting another kind of value at one place."""
    others = [None, "1", "x"]
    if isinstance(value, tuple):
        others += [7, True, False]
        for i, part in enumerate(value):
            for at, spoilt_part in spoilt(part, path + (i,)):
                yield at, value[:i] + (spoilt_part,) + value[i + 1:]
        if value:
            yield path, value + (value[-1],) if path else value + (None,)
            yield path, value[:-1]
    elif isinstance(value, str):
        others = [None, True, 1, value + " ", value[:-1], (value,), ""]
    else:
        others += [True, False, (value,), (), "0"]
    for other in others:
        yield path, other
