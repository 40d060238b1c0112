"""Given walks to test with, and spans of a known index."""

import random

from tests.samples import back, ends, joined, last_room, some_closed, ways


def some_web(chance):
    rooms = chance.choice((1, 1, 2, 2, 3))
    sizes = (1, 1, -1, 2, 2, -2, 3, 4, 6)
    ties = [(chance.randrange(rooms), chance.randrange(rooms), chance.choice(sizes), chance.choice(sizes))
            for _ in range(chance.randint(0, 3))]
    return (rooms, tuple(ties))


def some_given(chance, web, room, most=3, size=5):
    """Some given walks at a room, with at most 36 steps together."""
    given = []
    for _ in range(chance.randint(0, most)):
        walk = some_closed(chance, web, size, room, chance.choice((1, 3, 9)))
        if sum(len(other[2]) for other in given) + len(walk[2]) <= 36:
            given.append(walk)
    return tuple(given)


def some_product(chance, web, room, given, most=4):
    """Given walks and opposites of them joined."""
    walk = (room, 0, ())
    for _ in range(chance.randint(0, most) if given else 0):
        other = chance.choice(given)
        if chance.random() < 0.5:
            other = back(web, other)
        if len(walk[2]) + len(other[2]) <= 24:
            walk = joined(walk, other)
    return walk


def power_of(perm, count):
    result = tuple(range(len(perm)))
    if count < 0:
        perm = tuple(perm.index(k) for k in range(len(perm)))
    for _ in range(abs(count)):
        result = tuple(perm[k] for k in result)
    return result


def some_table(chance, web, d):
    """Permutations of d places over each room for one turn and over each tie for its crossing, as [50] wants them.

    None if a try fails, also because not all places are reached.
    """
    turns = []
    for _ in range(web[0]):
        perm = list(range(d))
        chance.shuffle(perm)
        turns.append(tuple(perm))
    crossings = []
    for v, w, p, q in web[1]:
        for _ in range(30):
            perm = list(range(d))
            chance.shuffle(perm)
            ahead, behind = power_of(turns[v], p), power_of(turns[w], q)
            if all(perm[ahead[k]] == behind[perm[k]] for k in range(d)):
                crossings.append(tuple(perm))
                break
        else:
            return None
    return (tuple(turns), tuple(crossings))


def moved_on(web, table, room, place, step):
    """The room and the place to which one turn, told by None, or one crossing leads."""
    turns, crossings = table
    if step is None:
        return room, turns[room][place]
    t, s = step
    w = ends(web, t, s)[1]
    return w, crossings[t][place] if s == 1 else crossings[t].index(place)


def place_behind(web, table, walk):
    """The place to which a walk leads place 0."""
    place = power_of(table[0][walk[0]], walk[1])[0]
    room = walk[0]
    for t, s, k in walk[2]:
        room, place = moved_on(web, table, room, place, (t, s))
        place = power_of(table[0][room], k)[place]
    return place


def closed_at_place(web, table, room):
    """Walks that put together all closed walks at a room that lead place 0 to itself, and the number of places reached."""
    known = {(room, 0): (room, 0, ())}
    order = [(room, 0)]
    found = []
    for at in order:
        steps = [None] + [way for way in ways(web, at[0]) if True]
        for step in steps:
            to = moved_on(web, table, at[0], at[1], step)
            walk = joined(known[at], (at[0], 1, ()) if step is None else (at[0], 0, (step + (0,),)))
            if to not in known:
                known[to] = walk
                order.append(to)
            else:
                found.append(joined(walk, back(web, known[to])))
    return found, sum(1 for v, _ in known if v == room)


def tables_in(seed, many):
    """Webs with rooms, given walks at them, tables and the indexes of the spans of the given walks."""
    chance = random.Random(seed)
    found = []
    while len(found) < many:
        web = some_web(chance)
        d = chance.randint(1, 5)
        table = some_table(chance, web, d)
        if table is None:
            continue
        room = chance.randrange(web[0])
        walks, index = closed_at_place(web, table, room)
        given = []
        for walk in walks:
            if walk[2] or walk[1]:
                given.append(walk)
        if len(given) <= 12 and sum(len(walk[2]) for walk in given) <= 60:
            assert all(last_room(web, walk) == room for walk in given)
            found.append((web, room, tuple(given), table, index))
    return found
