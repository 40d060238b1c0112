"""Tolls of crossings ([31])."""

from math import gcd

from tubewords.webs import ends_of


def crossing_toll(web, tie, side):
    """The toll (M, K) of one crossing."""
    _, _, ahead, behind = ends_of(web, tie, side)
    if ahead > 0:
        return (ahead, behind)
    return (-ahead, -behind)


def tolls_joined(first, second):
    """The toll of crossings with the first toll, followed by crossings with the second one."""
    m, k = first
    n, l = second
    factor = n // gcd(n, k)
    return (m * factor, k * factor // n * l)


def toll_back(toll):
    """The toll of the same crossings, gone along backwards."""
    m, k = toll
    if k > 0:
        return (k, m)
    return (-k, -m)


def toll_along(web, crossings):
    """The toll of a list of crossings that follow one another."""
    toll = (1, 1)
    for tie, side in crossings:
        toll = tolls_joined(toll, crossing_toll(web, tie, side))
    return toll
