"""Distances of places, the ways between them and their middles ([12], [14])."""

from tubewords.errors import NotInOne


def check_one_base(places):
    """Nothing is done if all places of a list have the base of the first one."""
    for place in places:
        if place[0] != places[0][0]:
            raise NotInOne(place[0])


def shared_ways(first, second):
    """The number of equal ways at the beginnings of two places of one base."""
    shared = 0
    for way, other in zip(first[1], second[1]):
        if way != other:
            break
        shared += 1
    return shared


def distance_of(web, first, second):
    """The distance of two places."""
    check_one_base([first, second])
    return len(first[1]) + len(second[1]) - 2 * shared_ways(first, second)


def beginning_of(place, size):
    """The place with the first ways of a place, so many of them."""
    return (place[0], place[1][:size])


def way_between(web, first, second):
    """The places on the way between two places, from the first to the second one."""
    check_one_base([first, second])
    shared = shared_ways(first, second)
    back = [beginning_of(first, size) for size in range(len(first[1]), shared, -1)]
    on = [beginning_of(second, size) for size in range(shared, len(second[1]) + 1)]
    return tuple(back + on)


def middle_of(web, first, second, third):
    """The middle of three places."""
    check_one_base([first, second, third])
    # Of the three places where two of them part, the middle is the one that two or all three do not go beyond.
    parted = [
        beginning_of(first, shared_ways(first, second)),
        beginning_of(second, shared_ways(second, third)),
        beginning_of(third, shared_ways(third, first)),
    ]
    return max(parted, key=lambda place: len(place[1]))
