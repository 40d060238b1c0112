"""What the rows of span papers stand for ([47])."""

from tubewords.kinds import is_integer, is_integer_from, is_tuple_of
from tubewords.plainwalks import plain_of_any_size
from tubewords.turned import goes_on, power_of_any_size
from tubewords.walks import joined_of_any_size, numbers_of, opposite_walk

MOST_ROW_STEPS = 200

# Its fourth power is 10 ** 2000, the bound of rows; numbers of so many digits are not written out in this program.
ROW_BOUND_ROOT = (10 ** 50) ** 10


def row_walks(web, room, walks, value):
    """The plain walks for which the rows of a value stand, in a list; None if it is no tuple of rows as in [47]."""
    if not isinstance(value, tuple) or value == ():
        return None
    found = []
    for row in value:
        walk = row_walk(web, room, walks, found, row)
        if walk is None:
            return None
        plain = plain_of_any_size(web, walk)
        if is_great_row(plain):
            return None
        found.append(plain)
    return found


def is_great_row(plain):
    """Whether the plain walk of a row has too many steps or too great numbers."""
    bound = ROW_BOUND_ROOT ** 4
    return len(plain[2]) > MOST_ROW_STEPS or any([abs(turns) >= bound for turns in numbers_of(plain)])


def row_walk(web, room, walks, found, row):
    """A walk for which a row stands behind the rows for the found walks, None if it is no row."""
    if row == ("idle",):
        return (room, 0, ())
    if is_tuple_of(row, 2) and row[0] == "given" and is_number_of(row[1], walks):
        return walks[row[1]]
    if is_tuple_of(row, 2) and row[0] == "opposite" and is_number_of(row[1], found):
        return opposite_walk(web, found[row[1]])
    if is_tuple_of(row, 3) and row[0] == "joined" and is_number_of(row[1], found) and is_number_of(row[2], found):
        return joined_of_any_size([found[row[1]], found[row[2]]])
    if is_tuple_of(row, 3) and row[0] == "power" and is_number_of(row[1], found) and is_integer(row[2]):
        return row_power(web, found[row[1]], row[2])
    return None


def is_number_of(value, rows):
    """Whether a value is the number of a member of a tuple or a list."""
    return is_integer_from(value, 0, len(rows) - 1)


def row_power(web, walk, count):
    """A power of a walk, None if a row may not stand for it."""
    if abs(count) > 1 and goes_on(web, walk):
        return None
    return power_of_any_size(web, walk, count)
