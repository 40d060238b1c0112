"""Plans, which tell walks with very many steps, and their tolls ([26])."""

from math import gcd

from tubewords.errors import TooMany
from tubewords.kinds import is_integer_from, is_side, is_tuple_of, is_tuple_up_to
from tubewords.shares import crossing_toll, toll_back, tolls_joined
from tubewords.walks import crossings_back
from tubewords.webs import ends_of, is_crossing, is_room

MOST_LINES = 500
MOST_ENTRIES = 500
MOST_TIMES = 1000
MOST_CROSSINGS = 2000

# Its square is 10 ** 1000, the bound of tolls; numbers of so many digits are not written out in this program.
TOLL_BOUND_ROOT = (10 ** 50) ** 10


def is_plan(web, value):
    """Whether a value is a plan."""
    if not is_tuple_up_to(value, MOST_LINES) or value == ():
        return False
    rows = []
    for line in value:
        row = line_row(web, rows, line)
        if row is None:
            return False
        rows.append(row)
    return True


def line_row(web, rows, line):
    """The rooms in which a line begins and ends and its toll, in one row, behind the rows of the lines before it.

    None if it is no line of a plan.
    """
    if not is_tuple_of(line, 2) or not is_room(web, line[0]) or not is_tuple_up_to(line[1], MOST_ENTRIES):
        return None
    room = line[0]
    toll = (1, 1)
    for entry in line[1]:
        row = entry_row(web, rows, entry)
        if row is None or row[0] != room:
            return None
        toll = tolls_joined(toll, row[2:])
        if is_great_toll(toll):
            return None
        room = row[1]
    return (line[0], room) + toll


def entry_row(web, rows, entry):
    """The row of an entry with all its times, None if it is no entry of a plan."""
    if is_tuple_of(entry, 3) and entry[0] == "cross" and is_crossing(web, entry[1], entry[2]):
        return ends_of(web, entry[1], entry[2])[:2] + crossing_toll(web, entry[1], entry[2])
    if is_tuple_of(entry, 4) and entry[0] == "line" and is_line_use(len(rows), entry):
        _, number, side, times = entry
        return repeated_row(sided_row(rows[number], side), times)
    return None


def is_line_use(lines, entry):
    """Whether an entry names one of the first lines, so many of them, with a side and times."""
    _, number, side, times = entry
    return is_integer_from(number, 0, lines - 1) and is_side(side) and is_integer_from(times, 1, MOST_TIMES)


def sided_row(row, side):
    """The row of a line that is gone along forwards or backwards."""
    if side == 1:
        return row
    return (row[1], row[0]) + toll_back(row[2:])


def repeated_row(row, times):
    """The row of a line that is gone along so many times, None if that cannot be, or its toll is too great."""
    if times == 1:
        return row
    begin, end, m, k = row
    if begin != end:
        return None
    # Each further time, the toll gets the parts that the two numbers do not share once more.
    common = gcd(m, k)
    ahead = power_in_bound(m // common, times - 1)
    behind = power_in_bound(k // common, times - 1)
    if ahead is None or behind is None or is_great_toll((m * ahead, k * behind)):
        return None
    return (begin, end, m * ahead, k * behind)


def power_in_bound(base, count):
    """A base to the power count, None if it is too great for a toll."""
    power = 1
    for digit in f"{count:b}":
        power *= power
        if digit == "1":
            power *= base
        if is_great(power):
            return None
    return power


def is_great(number):
    """Whether a number is too great for a toll."""
    return abs(number) >= TOLL_BOUND_ROOT * TOLL_BOUND_ROOT


def is_great_toll(toll):
    """Whether one of the numbers of a toll is too great."""
    return is_great(toll[0]) or is_great(toll[1])


def plan_tolls(web, plan):
    """The row of each line: the rooms in which it begins and ends, and its toll."""
    rows = []
    for line in plan:
        rows.append(line_row(web, rows, line))
    return tuple(rows)


def plan_crossings(web, plan):
    """The crossings of the last line."""
    if line_sizes(plan)[-1] > MOST_CROSSINGS:
        raise TooMany("crossings")
    used = used_lines(plan)
    told = {}
    for number, line in enumerate(plan):
        # Lines that the last one does not use may have too many crossings to be told.
        if used[number]:
            told[number] = line_crossings(told, line)
    return tuple(told[len(plan) - 1])


def line_sizes(plan):
    """The numbers of crossings of the lines, in a list."""
    sizes = []
    for _, entries in plan:
        size = 0
        for entry in entries:
            if entry[0] == "cross":
                size += 1
            else:
                size += sizes[entry[1]] * entry[3]
        sizes.append(size)
    return sizes


def used_lines(plan):
    """For each line whether the last one uses it, itself or through other lines, in a list."""
    used = [False] * (len(plan) - 1) + [True]
    for number in range(len(plan) - 1, -1, -1):
        for entry in plan[number][1]:
            if used[number] and entry[0] == "line":
                used[entry[1]] = True
    return used


def line_crossings(told, line):
    """The crossings of a line in a list, behind those of the lines that it uses."""
    crossings = []
    for entry in line[1]:
        if entry[0] == "cross":
            crossings.append((entry[1], entry[2]))
        elif entry[2] == 1:
            crossings.extend(told[entry[1]] * entry[3])
        else:
            crossings.extend(crossings_back(told[entry[1]]) * entry[3])
    return crossings
