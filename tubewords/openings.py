"""Openings, answers and the told carrier of walks that go on ([24], [25])."""

from math import gcd

from tubewords.errors import OutOfRange, Stays
from tubewords.kinds import is_integer_from
from tubewords.plainwalks import plain_of_any_size
from tubewords.turned import goes_on, shifted, trip_and_lap_of_any_size, turns_between
from tubewords.walks import bounded_walk, check_closed, crossings_of, end_room, joined_of_any_size
from tubewords.walks import opposite_walk, walk_with
from tubewords.webs import ends_of


def opening_of(web, walk, count):
    """The opening of a closed walk by the count."""
    check_closed(web, walk)
    if not is_integer_from(count, 0, len(walk[2]) - 1):
        raise OutOfRange(count)
    return bounded_walk(opening_of_any_size(web, walk, count))


def opening_of_any_size(web, walk, count):
    """The opening of a closed walk by the count, looking at no bounds."""
    crossings = shifted(crossings_of(walk), count)
    tie, side = crossings[0]
    return walk_with(ends_of(web, tie, side)[0], [0] + shifted(turns_between(walk), count), crossings)


def check_going(web, walks):
    """Nothing is done if all walks of a list are closed and go on."""
    for walk in walks:
        check_closed(web, walk)
    for walk in walks:
        if not goes_on(web, walk):
            raise Stays(walk)


def opening_answers(web, first, second):
    """The answers for each opening of the lap of the first walk."""
    check_going(web, [first, second])
    lap = trip_and_lap_of_any_size(web, first)[1]
    other = trip_and_lap_of_any_size(web, second)[1]
    wanted = opening_of_any_size(web, other, 0)
    return tuple([answer_of(web, opening_of_any_size(web, lap, r), wanted) for r in range(len(lap[2]))])


def answer_of(web, opening, wanted):
    """The answer of an opening: the j with which it is carried into the wanted one."""
    row = fitting_row(web, opening, wanted)
    if row is None:
        return None
    start, toll, at, rate = row
    return answer_from(start, toll, at, rate)


def fitting_row(web, opening, wanted):
    """(start, toll, at, rate): just start + toll * t can be carried over all steps, and becomes at + rate * t.

    None if nothing can be carried over them.
    """
    if crossings_of(opening) != crossings_of(wanted):
        return None
    start, toll, at, rate = 0, 1, 0, 1
    for (tie, side, turns), (_, _, others) in zip(opening[2], wanted[2]):
        _, _, ahead, behind = ends_of(web, tie, side)
        least = least_carried(at, rate, ahead)
        if least is None:
            return None
        apart = abs(ahead) // gcd(rate, ahead)
        start, toll = start + toll * least, toll * apart
        at, rate = (at + rate * least) // ahead * behind + others - turns, rate * apart // ahead * behind
    return (start, toll, at, rate)


def least_carried(at, rate, ahead):
    """The least t from 0 on for which at + rate * t is a multiple of the end ahead, None if there is none."""
    for t in range(abs(ahead) // gcd(rate, ahead)):
        if (at + rate * t) % ahead == 0:
            return t
    return None


def answer_from(start, toll, at, rate):
    """The answer if the integers t for which start + toll * t is at + rate * t are asked for."""
    if rate == toll:
        if start != at:
            return None
        return ("row", start % toll, toll)
    if (at - start) % (toll - rate) != 0:
        return None
    return ("one", start + (at - start) // (toll - rate) * toll)


def told_carrier(web, first, second):
    """The told carrier of the first walk into the second one, None if there is none."""
    for r, answer in enumerate(opening_answers(web, first, second)):
        if answer is not None:
            return bounded_walk(carrier_of_any_size(web, first, second, r, answer[1]))
    return None


def carrier_of_any_size(web, first, second, r, j):
    """The plain walk of the carrier that j turns behind the first r steps of the lap make, looking at no bounds."""
    trip, lap = trip_and_lap_of_any_size(web, first)
    other_trip, other_lap = trip_and_lap_of_any_size(web, second)
    begun = (lap[0], lap[1], lap[2][:r])
    between = (end_room(web, begun), j, ())
    back = (other_lap[0], -other_lap[1], ())
    return plain_of_any_size(web, joined_of_any_size([trip, begun, between, back, opposite_walk(web, other_trip)]))
