"""Walks that keep places ([15], [16]), and walks that stay or go on ([17])."""

from tubewords.distances import beginning_of, check_one_base, shared_ways
from tubewords.errors import NotJoined, OutOfRange
from tubewords.places import counts_of_passed, place_of, place_room, walk_to
from tubewords.plainwalks import plain_of_any_size
from tubewords.shares import toll_along
from tubewords.walks import bounded_walk, check_closed, crossings_back, joined_of_any_size, opposite_walk

MOST_COUNTED_WAYS = 8


def keeps_place(web, walk, place):
    """Whether a closed walk keeps a place."""
    return kept_turns(web, walk, place) is not None


def kept_turns(web, walk, place):
    """The kept turns of a closed walk at a place, None if it does not keep it."""
    check_closed(web, walk)
    if walk[0] != place[0]:
        raise NotJoined(walk[0], place[0])
    there = walk_to(web, place)
    seen = plain_of_any_size(web, joined_of_any_size([opposite_walk(web, there), walk, there]))
    # Seen from the place, a walk that keeps it is nothing but turns there.
    if seen[2]:
        return None
    return seen[1]


def keeping_walk(web, place, turns):
    """The plain walk of the closed walk with so many kept turns at a place."""
    there = walk_to(web, place)
    kept = (place_room(web, place), turns, ())
    return bounded_walk(plain_of_any_size(web, joined_of_any_size([there, kept, opposite_walk(web, there)])))


def crossings_between(first, second):
    """The crossings on the way between two places of one base, from the first to the second one, in a list."""
    shared = shared_ways(first, second)
    back = [(tie, side) for _, tie, side in first[1][shared:]]
    on = [(tie, side) for _, tie, side in second[1][shared:]]
    return crossings_back(back) + on


def keeping_number(web, first, second):
    """The keeping number of two places."""
    check_one_base([first, second])
    return toll_along(web, crossings_between(first, second))[0]


def kept_counts(web, room, turns, size):
    """The numbers of places with 0, 1, .., size ways that so many turns of their base keep."""
    if size < 0 or size > MOST_COUNTED_WAYS:
        raise OutOfRange(size)
    return counts_of_passed(web, room, turns, size)


def steps_once_and_twice(web, walk):
    """The numbers of steps of the plain walks of a closed walk and of the walk joined with itself."""
    check_closed(web, walk)
    once = plain_of_any_size(web, walk)
    twice = plain_of_any_size(web, joined_of_any_size([once, once]))
    return (len(once[2]), len(twice[2]))


def nearest_kept(web, walk):
    """The kept place that is nearest to the base place, None if the closed walk goes on."""
    once, twice = steps_once_and_twice(web, walk)
    if twice > once:
        return None
    return beginning_of(place_of(web, walk), once // 2)


def line_places(web, walk):
    """The places of the line from its nearest one to that to which the walk leads it, None if the walk stays."""
    once, twice = steps_once_and_twice(web, walk)
    if twice <= once:
        return None
    nearest = (2 * once - twice) // 2
    led = place_of(web, walk)
    return tuple([beginning_of(led, size) for size in range(nearest, nearest + twice - once + 1)])
