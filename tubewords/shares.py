"""Shares and tolls of walks, and turns that pass them ([31])."""

from math import gcd

from tubewords.quotients import fraction_of
from tubewords.walks import crossings_of
from tubewords.webs import ends_of


def share_of(web, walk):
    """The share of a walk, a fraction."""
    above, below = 1, 1
    for tie, side in crossings_of(walk):
        _, _, ahead, behind = ends_of(web, tie, side)
        above *= behind
        below *= ahead
    return fraction_of(above, below)


def toll_of(web, walk):
    """The toll (M, K) of a walk."""
    return toll_along(web, crossings_of(walk))


def passed_turns(web, walk, turns):
    """The number of turns as which turns come out behind a walk, None if they do not pass it."""
    for tie, side in crossings_of(walk):
        turns = turns_over(web, tie, side, turns)
        if turns is None:
            return None
    return turns


def turns_over(web, tie, side, turns):
    """The number of turns as which turns come out behind one crossing, None if they do not pass it."""
    _, _, ahead, behind = ends_of(web, tie, side)
    if turns % ahead != 0:
        return None
    return turns // ahead * behind


def crossing_toll(web, tie, side):
    """The toll (M, K) of one crossing."""
    _, _, ahead, behind = ends_of(web, tie, side)
    if ahead > 0:
        return (ahead, behind)
    return (-ahead, -behind)


def tolls_joined(first, second):
    """The toll of crossings with the first toll, followed by crossings with the second one."""
    m, k = first
    n, l = second
    factor = n // gcd(n, k)
    return (m * factor, k * factor // n * l)


def toll_back(toll):
    """The toll of the same crossings, gone along backwards."""
    m, k = toll
    if k > 0:
        return (k, m)
    return (-k, -m)


def toll_along(web, crossings):
    """The toll of a list of crossings that follow one another."""
    toll = (1, 1)
    for tie, side in crossings:
        toll = tolls_joined(toll, crossing_toll(web, tie, side))
    return toll
