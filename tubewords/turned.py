"""Turned walks ([18]), trips, laps and lengths ([19], [20]), rotations ([21])."""

from tubewords.errors import OutOfRange
from tubewords.kinds import is_integer_from
from tubewords.plainwalks import plain_of_any_size
from tubewords.walks import are_opposite, bounded_walk, check_closed, crossings_of, joined_of_any_size, numbers_of
from tubewords.walks import opposite_walk, walk_with
from tubewords.webs import ends_of


def turns_between(walk):
    """The turns between each step of a closed walk with steps and the next one, in a list."""
    numbers = numbers_of(walk)
    return numbers[1:-1] + [numbers[-1] + numbers[0]]


def shifted(row, count):
    """A list that begins behind its first members, so many of them, which follow at its end."""
    return row[count:] + row[:count]


def is_turned(web, walk):
    """Whether a closed walk is turned, as it is written."""
    check_closed(web, walk)
    if not walk[2]:
        return True
    crossings = crossings_of(walk)
    for crossing, following, turns in zip(crossings, shifted(crossings, 1), turns_between(walk)):
        behind = ends_of(web, crossing[0], crossing[1])[3]
        if are_opposite(crossing, following) and turns % behind == 0:
            return False
    return True


def carried_round(web, walk):
    """A plain closed walk that is not turned, carried round."""
    numbers = numbers_of(walk)
    crossings = crossings_of(walk)
    tie, side = crossings[0]
    _, room, ahead, behind = ends_of(web, tie, side)
    inner = numbers[1:-1]
    inner[-1] += (numbers[-1] + numbers[0]) // ahead * behind
    return walk_with(room, inner, crossings[1:-1])


def trip_and_lap_of_any_size(web, walk):
    """The trip and the lap of a closed walk, looking at no bounds."""
    check_closed(web, walk)
    plain = plain_of_any_size(web, walk)
    lap = plain
    count = 0
    while not is_turned(web, lap):
        lap = carried_round(web, lap)
        count += 1
    trip = walk_with(plain[0], numbers_of(plain)[:count] + [0], crossings_of(plain)[:count])
    return (trip, lap)


def trip_and_lap(web, walk):
    """The trip and the lap of a closed walk."""
    trip, lap = trip_and_lap_of_any_size(web, walk)
    return (trip, bounded_walk(lap))


def power_of_any_size(web, walk, count):
    """The plain walk of a closed walk to the power of any integer, looking at no bounds."""
    trip, lap = trip_and_lap_of_any_size(web, walk)
    if not lap[2]:
        power = (lap[0], lap[1] * count, ())
    elif count < 0:
        power = joined_of_any_size([opposite_walk(web, lap)] * -count)
    else:
        power = joined_of_any_size([(lap[0], 0, ())] + [lap] * count)
    return plain_of_any_size(web, joined_of_any_size([trip, power, opposite_walk(web, trip)]))


def walk_length(web, walk):
    """The length of a closed walk."""
    return len(trip_and_lap_of_any_size(web, walk)[1][2])


def goes_on(web, walk):
    """Whether a closed walk goes on."""
    return walk_length(web, walk) > 0


def trip_steps(web, walk):
    """The number of steps of the trip of a closed walk."""
    return len(trip_and_lap_of_any_size(web, walk)[0][2])


def rotated_walk(web, walk, count):
    """A closed walk rotated by the count."""
    check_closed(web, walk)
    if not is_integer_from(count, 0, len(walk[2])):
        raise OutOfRange(count)
    if count == 0:
        return walk
    crossings = crossings_of(walk)
    between = turns_between(walk)
    tie, side = crossings[count - 1]
    numbers = [between[count - 1]] + shifted(between, count)[:-1] + [0]
    return bounded_walk(walk_with(ends_of(web, tie, side)[1], numbers, shifted(crossings, count)))


def pace_of(web, walk):
    """The pace of a closed walk, as it is written."""
    check_closed(web, walk)
    crossings = crossings_of(walk)
    for divisor in range(1, len(crossings) + 1):
        if len(crossings) % divisor == 0 and shifted(crossings, divisor) == crossings:
            return divisor
    return 0
