"""What commutes with a walk that goes on ([40])."""

from tubewords.linewalks import check_bounds, check_on, numbers_on_line, told_line, told_walk
from tubewords.plainwalks import are_equal
from tubewords.shares import share_of
from tubewords.turned import power_of_any_size
from tubewords.walks import joined_of_any_size


def do_commute(web, first, second):
    """Whether two closed walks at one room commute."""
    check_bounds(web, [first, second])
    return are_equal(web, joined_of_any_size([first, second]), joined_of_any_size([second, first]))


def what_commutes(web, walk):
    """(h,) or (h, f): the walks that put together what commutes with a walk that goes on."""
    check_on(web, walk)
    line = told_line(web, walk)
    mover = line[0]
    row = table_row(web, line, walk)
    if row in (1, 2, 5):
        return line
    if row == 3:
        return (told_power(web, line, 1, numbers_on_line(web, line, walk)[1]),)
    return (told_walk(web, [mover, mover]), line[1])


def table_row(web, line, walk):
    """The number of the row of the table of [40] for a walk, given what keeps its line."""
    if len(line) == 1:
        return 1
    if share_of(web, line[0]) == (1, 1):
        return 2
    n, j = numbers_on_line(web, line, walk)
    if n % 2 == 1:
        return 3
    if j != 0:
        return 4
    return 5


def told_power(web, line, n, j):
    """The first one of the walks that keep a line to the power n, joined with the other one, if any, to the power j."""
    powers = [power_of_any_size(web, walk, count) for walk, count in zip(line, (n, j))]
    return told_walk(web, powers)


def commuting_sort(web, walk):
    """The sort of what commutes with a walk that goes on."""
    check_on(web, walk)
    row = table_row(web, told_line(web, walk), walk)
    if row in (1, 3):
        return "alone"
    if row in (2, 4):
        return "together"
    return "against"
