"""Walks that rest on the line of a walk that goes on, or keep it ([37] to [39])."""

from tubewords.errors import NotJoined, TooGreat, TooMany
from tubewords.openings import answer_from, check_going, fitting_row, opening_of_any_size
from tubewords.plainwalks import plain_of_any_size
from tubewords.shares import share_of, toll_of
from tubewords.turned import power_of_any_size, trip_and_lap_of_any_size, walk_length
from tubewords.walks import bounded_walk, check_closed, joined_of_any_size, numbers_of, opposite_walk

MOST_PLAIN_STEPS = 24
GREATEST_PLAIN_TURNS = 10 ** 60


def check_bounds(web, walks):
    """Nothing is done if the walks of a list are closed, begin in one room and are not too great for this part."""
    for walk in walks:
        check_closed(web, walk)
    for walk in walks[1:]:
        check_one_room(walks[0], walk)
    check_plain_walks(web, walks)


def check_one_room(walk, other):
    """Nothing is done if two walks begin in the same room."""
    if walk[0] != other[0]:
        raise NotJoined(walk[0], other[0])


def check_plain_walks(web, walks):
    """Nothing is done if the plain walks of a list of walks are not too great for this part."""
    plains = [plain_of_any_size(web, walk) for walk in walks]
    for plain in plains:
        if len(plain[2]) > MOST_PLAIN_STEPS:
            raise TooMany("steps")
    for plain in plains:
        if any([abs(turns) > GREATEST_PLAIN_TURNS for turns in numbers_of(plain)]):
            raise TooGreat("turns")


def check_on(web, walk):
    """Nothing is done if a walk is closed, not too great for this part, and goes on."""
    check_bounds(web, [walk])
    check_going(web, [walk])


def check_on_beside(web, walk, other):
    """Nothing is done if two walks are within the bounds of this part, and the first one goes on."""
    check_bounds(web, [walk, other])
    check_going(web, [walk])


def told_walk(web, walks):
    """The plain walk of a list of walks joined, where it can be returned."""
    return bounded_walk(plain_of_any_size(web, joined_of_any_size(walks)))


def still_turns(web, walk):
    """The still turns of a walk that goes on, 0 if there is no still walk."""
    check_on(web, walk)
    return turns_at_rest(web, walk)


def turns_at_rest(web, walk):
    """The still turns of a walk that goes on, looking at no bounds."""
    lap = trip_and_lap_of_any_size(web, walk)[1]
    if share_of(web, lap) not in ((1, 1), (-1, 1)):
        return 0
    return toll_of(web, lap)[0]


def still_walk(web, walk):
    """The still walk of a walk that goes on, None if there is none."""
    check_on(web, walk)
    return told_still(web, walk)


def told_still(web, walk):
    """The still walk of a walk within the bounds of this part, None if there is none."""
    turns = turns_at_rest(web, walk)
    if turns == 0:
        return None
    trip, lap = trip_and_lap_of_any_size(web, walk)
    return told_walk(web, [trip, (lap[0], turns, ()), opposite_walk(web, trip)])


def still_number(web, still, walk):
    """The b for which a walk is equal to a still walk to the power b, None if there is none.

    Without a still walk, which is told by None, b is 0 for the idle walk.
    """
    if still is None:
        if plain_of_any_size(web, walk) == (walk[0], 0, ()):
            return 0
        return None
    trip, lap = trip_and_lap_of_any_size(web, still)
    seen = plain_of_any_size(web, joined_of_any_size([opposite_walk(web, trip), walk, trip]))
    if seen[2] or seen[1] % lap[1] != 0:
        return None
    return seen[1] // lap[1]


def rests_on_line(web, walk, other):
    """Whether another walk rests on the line of a walk that goes on."""
    check_on_beside(web, walk, other)
    return still_number(web, told_still(web, walk), other) is not None


def keeps_line(web, walk, other):
    """Whether another walk keeps the line of a walk that goes on."""
    check_on_beside(web, walk, other)
    return numbers_on_line(web, told_line(web, walk), other) is not None


def line_walks(web, walk):
    """(t,) or (t, f): the walks that put together what keeps the line of a walk that goes on."""
    check_on(web, walk)
    return told_line(web, walk)


def told_line(web, walk):
    """(t,) or (t, f) for a walk within the bounds of this part."""
    still = told_still(web, walk)
    if still is None:
        return (least_mover(web, walk),)
    return (least_mover(web, walk), still)


def least_mover(web, walk):
    """A walk that moves the line of a walk by the least number of places above 0."""
    trip, lap = trip_and_lap_of_any_size(web, walk)
    turns = turns_at_rest(web, walk)
    count = 1
    behind = moving_turns(web, lap, count, turns)
    while behind is None:
        count += 1
        behind = moving_turns(web, lap, count, turns)
    # The lap itself moves the line by all of its steps, so that some count is found.
    opened = opening_of_any_size(web, lap, 0)
    begun = (lap[0], lap[1], opened[2][:count])
    there = (lap[0], behind - lap[1], ())
    return told_walk(web, [trip, begun, there, opposite_walk(web, trip)])


def moving_turns(web, lap, count, still):
    """The turns behind the first steps of an opened lap with which they keep its line; None if none do.

    Only counts of steps that divide that of the lap are of use; still are the still turns.
    """
    steps = len(lap[2])
    if steps % count != 0:
        return None
    row = fitting_row(web, opening_of_any_size(web, lap, count % steps), opening_of_any_size(web, lap, 0))
    if row is None:
        return None
    start, toll, at, rate = row
    if still != 0:
        # What comes out behind the lap then differs by a multiple of its toll, so that it can be carried on and on.
        return start
    answer = answer_from(start, toll, at, rate)
    if answer is None:
        return None
    return answer[1]


def line_numbers(web, told, other):
    """(a, b) for which another walk is equal to the told walks to these powers, None if there are none."""
    check_closed(web, other)
    check_one_room(told[0], other)
    check_plain_walks(web, [other])
    return numbers_on_line(web, told, other)


def numbers_on_line(web, told, other):
    """(a, b) for which another walk is equal to the told walks to these powers, looking at no bounds."""
    still = None
    if len(told) == 2:
        still = told[1]
    length = walk_length(web, told[0])
    moved = walk_length(web, other)
    if moved % length != 0:
        return None
    for count in (moved // length, -(moved // length)):
        left = joined_of_any_size([power_of_any_size(web, told[0], -count), other])
        number = still_number(web, still, left)
        if number is not None:
            return (count, number)
    return None
