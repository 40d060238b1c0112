"""Roots ([41]) and powers in common ([42]) of walks that go on."""

from math import gcd

from tubewords.commuting import commuting_sort, table_row, told_power
from tubewords.errors import OutOfRange
from tubewords.linewalks import check_bounds, check_on, numbers_on_line, told_line
from tubewords.openings import check_going
from tubewords.turned import power_of_any_size, walk_length


def greatest_root(web, walk):
    """The greatest n for which a walk has a root, and a root for it."""
    check_on(web, walk)
    line = told_line(web, walk)
    greatest = greatest_count(web, line, walk)
    return (greatest, told_root(web, line, walk, greatest))


def root_for(web, walk, count):
    """A root of a walk for a count, None if there is none."""
    if count < 1:
        raise OutOfRange(count)
    check_on(web, walk)
    line = told_line(web, walk)
    if greatest_count(web, line, walk) % count != 0:
        return None
    return told_root(web, line, walk, count)


def greatest_count(web, line, walk):
    """The greatest n for which a walk has a root, given what keeps its line."""
    n, j = numbers_on_line(web, line, walk)
    row = table_row(web, line, walk)
    if row == 2:
        return gcd(n, j)
    if row == 4:
        return gcd(n // 2, j)
    return n


def told_root(web, line, walk, count):
    """A root of a walk for a divisor of the greatest count."""
    n, j = numbers_on_line(web, line, walk)
    if table_row(web, line, walk) == 3:
        # With all odd powers of the first walk of the line, the still walk is left as often in a power as in the root.
        return told_power(web, line, n // count, j)
    return told_power(web, line, n // count, j // count)


def has_lone_roots(web, walk):
    """Whether a walk has finitely many roots for each n."""
    return commuting_sort(web, walk) != "against"


def common_powers(web, first, second):
    """The least powers in common of two walks, None if they have no power in common."""
    check_bounds(web, [first, second])
    check_going(web, [first, second])
    length, other = walk_length(web, first), walk_length(web, second)
    common = gcd(length, other)
    # All powers in common are powers of the least ones, and these are found where both are of the length 2 k l of [42].
    for times in range(1, 2 * common + 1):
        if 2 * common % times == 0:
            count, others = times * (other // common), times * (length // common)
            sign = power_sign(web, first, second, count, others)
            if sign is not None:
                return (count, sign * others)
    return None


def power_sign(web, first, second, count, others):
    """1 or -1 if the first walk to the power count is the second one to the power others, or to the opposite power.

    None if it is neither.
    """
    power = power_of_any_size(web, first, count)
    for sign in (1, -1):
        if power == power_of_any_size(web, second, sign * others):
            return sign
    return None
