"""Plans made of the lines of completed rules ([26], [28])."""

from tubewords.completion import entries_back
from tubewords.plans import MOST_ENTRIES
from tubewords.webs import ends_of

# Lines of no more entries are written out where they are gone along, so that a plan has fewer lines.
SHORT_LINE = 6


def plan_of_crossings(walk):
    """The plan of one line that crosses what a walk crosses."""
    return ((walk[0], tuple([("cross", tie, side) for tie, side, _ in walk[2]])),)


def plan_of_lines(web, lines, room, entries):
    """The plan whose last line begins in a room and has these entries, which go along some of the lines."""
    told = []
    for _, line in lines:
        told.append(packed(written_out(told, line)))
    last = packed(written_out(told, entries))
    numbers = {}
    rows = []
    for number in used_numbers(told, last):
        numbers[number] = add_cut(web, rows, lines[number][0], renumbered(numbers, told[number]))
    add_cut(web, rows, room, renumbered(numbers, last))
    return tuple([(begin, line) for begin, _, line in rows])


def written_out(told, entries):
    """The entries with those of short lines in the place of these lines, in a list."""
    found = []
    for entry in entries:
        if entry[0] == "cross" or len(told[entry[1]]) > SHORT_LINE:
            found.append(entry)
        elif entry[2] == 1:
            found.extend(told[entry[1]])
        else:
            found.extend(entries_back(told[entry[1]]))
    return found


def packed(entries):
    """The entries without those that go there and at once back, in a list."""
    kept = []
    for entry in entries:
        if [entry] == entries_back(kept[-1:]):
            kept.pop()
        else:
            kept.append(entry)
    return kept


def used_numbers(told, last):
    """The numbers of the lines that entries use, themselves or through other lines, ascending, in a list."""
    used = [False] * len(told)
    waiting = list(last)
    while waiting:
        entry = waiting.pop()
        if entry[0] == "line" and not used[entry[1]]:
            used[entry[1]] = True
            waiting.extend(told[entry[1]])
    return [number for number, is_used in enumerate(used) if is_used]


def renumbered(numbers, entries):
    """The entries with new numbers of lines, in a list."""
    found = []
    for entry in entries:
        if entry[0] == "line":
            entry = ("line", numbers[entry[1]]) + entry[2:]
        found.append(entry)
    return found


def add_cut(web, rows, room, entries):
    """Adds the row of a line, cut into lines of its own where it has too many entries, and returns its number."""
    rooms = rooms_along(web, rows, room, entries)
    if len(entries) <= MOST_ENTRIES:
        rows.append((room, rooms[-1], tuple(entries)))
        return len(rows) - 1
    parts = []
    for first in range(0, len(entries), MOST_ENTRIES):
        part = entries[first:first + MOST_ENTRIES]
        rows.append((rooms[first], rooms[first + len(part)], tuple(part)))
        parts.append(("line", len(rows) - 1, 1, 1))
    return add_cut(web, rows, room, parts)


def rooms_along(web, rows, room, entries):
    """The rooms in which the entries of a line begin, and the one in which the last one ends, in a list."""
    rooms = [room]
    for entry in entries:
        if entry[0] == "cross":
            rooms.append(ends_of(web, entry[1], entry[2])[1])
        elif entry[2] == 1:
            rooms.append(rows[entry[1]][1])
        else:
            rooms.append(rows[entry[1]][0])
    return rooms
