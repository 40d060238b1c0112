"""Changes of webs to test with, and what [51] to [53] say of them, told once more.

Nothing here calls the package. A walk is taken apart to a row of turns, told as integers, and crossings, told as pairs.
"""

from tests.samples import ends, ways


def changed_by_words(web, change):
    """The web that a change which can be done leads to."""
    rooms, ties = web
    kind = change[0]
    rows = [list(tie) for tie in ties]
    if kind == "turn over":
        for row in rows:
            row[2] *= -1 if row[0] == change[1] else 1
            row[3] *= -1 if row[1] == change[1] else 1
    elif kind == "flip":
        rows[change[1]][2:] = [-rows[change[1]][2], -rows[change[1]][3]]
    elif kind == "reverse":
        v, w, p, q = rows[change[1]]
        rows[change[1]] = [w, v, q, p]
    elif kind == "slide":
        _, e, which, t, side = change
        _, w, ahead, behind = ends(web, t, side)
        rows[e][which], rows[e][2 + which] = w, rows[e][2 + which] // ahead * behind
    elif kind == "draw in":
        _, t, side = change
        v, w, ahead, behind = ends(web, t, side)
        for row in rows:
            for which in (0, 1):
                if row[which] == v:
                    row[which], row[2 + which] = w, row[2 + which] * behind * ahead
        del rows[t]
        rows = [[r - (r > v) for r in row[:2]] + row[2:] for row in rows]
        rooms -= 1
    else:
        _, w, q, pairs = change
        for e, which in pairs:
            rows[e][which], rows[e][2 + which] = rooms, rows[e][2 + which] // q
        rows.append([rooms, w, 1, q])
        rooms += 1
    return (rooms, tuple(map(tuple, rows)))


def apart(web, walk):
    """The row of (room, turns) and crossings of a walk."""
    room = walk[0]
    row = [(room, walk[1])]
    for t, s, k in walk[2]:
        room = ends(web, t, s)[1]
        row += [("cross", t, s), (room, k)]
    return row


def together(room, row):
    """The walk that begins in a room and has a row of turns and crossings; turns that come together are added."""
    first, steps = 0, []
    for part in row:
        if part[0] == "cross":
            steps.append([part[1], part[2], 0])
        elif steps:
            steps[-1][2] += part[1]
        else:
            first += part[1]
    return (room, first, tuple(map(tuple, steps)))


def slid_row(row, e, which, t, side):
    result = []
    for part in row:
        if part[:2] != ("cross", e):
            result.append(part)
        elif part[2] == (1 if which == 0 else -1):
            result += [("cross", t, side), part]
        else:
            result += [part, ("cross", t, -side)]
    return result


def carried_by_words(web, change, walk):
    """What a change carries a walk to, as [52] says, not made plain."""
    row, room = apart(web, walk), walk[0]
    kind = change[0]
    if kind == "turn over":
        row = [(v, -k[0]) if v == change[1] else (v, *k) for v, *k in row]
    elif kind == "reverse":
        row = [("cross", part[1], -part[2]) if part[:2] == ("cross", change[1]) else part for part in row]
    elif kind == "slide":
        row = slid_row(row, *change[1:])
    elif kind == "draw in":
        _, t, side = change
        v, w, ahead, behind = ends(web, t, side)
        row = [part for part in row if part[:2] != ("cross", t)]
        row = [(w, part[1] * ahead * behind) if part[0] == v else part for part in row]
        row = [("cross", part[1] - (part[1] > t), part[2]) if part[0] == "cross" else part for part in row]
        room = w if room == v else room
        room -= room > v
    elif kind == "draw out":
        new, result = len(web[1]), []
        for part in row:
            if part[0] == "cross":
                begin, end = (0, 1) if part[2] == 1 else (1, 0)
                result += [("cross", new, -1)] * ((part[1], begin) in change[3]) + [part]
                result += [("cross", new, 1)] * ((part[1], end) in change[3])
            else:
                result.append(part)
        row = result
    return together(room, row)


def back_by_words(web, change, walk):
    """What a change takes a walk of the changed web back to, as [53] says, not made plain."""
    changed = changed_by_words(web, change)
    row, room = apart(changed, walk), walk[0]
    kind = change[0]
    if kind == "turn over":
        row = [(v, -k[0]) if v == change[1] else (v, *k) for v, *k in row]
    elif kind == "reverse":
        row = [("cross", part[1], -part[2]) if part[:2] == ("cross", change[1]) else part for part in row]
    elif kind == "slide":
        row = slid_row(row, *change[1:4], -change[4])
    elif kind == "draw in":
        _, t, side = change
        v = ends(web, t, side)[0]
        room += room >= v
        result = []
        for part in row:
            if part[0] == "cross":
                part = ("cross", part[1] + (part[1] >= t), part[2])
                begin, end, _, _ = ends(web, part[1], part[2])
                result += [("cross", t, -side)] * (begin == v) + [part] + [("cross", t, side)] * (end == v)
            else:
                result.append(part)
        row = result
    elif kind == "draw out":
        new, n = len(web[1]), web[0]
        row = [part for part in row if part[:2] != ("cross", new)]
        row = [(change[1], part[1] * change[2]) if part[0] == n else part for part in row]
        room = change[1] if room == n else room
    return together(room, row)


def fits(web):
    return web[0] <= 5 and len(web[1]) <= 7 and all(1 <= abs(end) <= 1000 for tie in web[1] for end in tie[2:])


def changes_of(web):
    """All changes of a web that can be done, but draws out with few pairs alone and small ends."""
    rooms, ties = web
    found = [("turn over", v) for v in range(rooms)]
    found += [(kind, e) for kind in ("flip", "reverse") for e in range(len(ties))]
    for e in range(len(ties)):
        for which in (0, 1):
            for t, side in ways(web, ties[e][which]):
                if t != e and ties[e][2 + which] % ends(web, t, side)[2] == 0:
                    found.append(("slide", e, which, t, side))
    for t in range(len(ties)):
        for side in (1, -1):
            v, w, ahead, _ = ends(web, t, side)
            if v != w and abs(ahead) == 1:
                found.append(("draw in", t, side))
    for w in range(rooms):
        for q in (1, -1, 2, -3, 6):
            pairs = [(e, which) for e in range(len(ties)) for which in (0, 1)
                     if ties[e][which] == w and ties[e][2 + which] % q == 0]
            found += [("draw out", w, q, some) for some in {(), tuple(pairs), tuple(pairs[:1]), tuple(pairs[1:])}]
    return [change for change in found if fits(changed_by_words(web, change))]


def some_changes(chance, web, many):
    """A tuple of changes that can be done one after the other."""
    changes = []
    for _ in range(many):
        found = sorted(changes_of(web), key=repr)
        kind = chance.choice(sorted({change[0] for change in found}))
        change = chance.choice([change for change in found if change[0] == kind])
        changes.append(change)
        web = changed_by_words(web, change)
    return tuple(changes)
