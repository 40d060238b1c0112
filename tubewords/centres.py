"""Level rooms ([33]), turns that commute ([35]) and centres ([36])."""

from math import gcd, lcm

from tubewords.cores import core_of, ends_at, home_of
from tubewords.plainwalks import are_equal
from tubewords.shares import share_of, toll_along
from tubewords.sources import brought_along, first_ways, rings_at, rings_over, sources_at
from tubewords.walks import crossings_of, end_room, joined_of_any_size
from tubewords.webs import ends_of


def is_level(web, room):
    """Whether each closed walk at a room has the share 1 or -1."""
    return all([share_of(web, ring) in ((1, 1), (-1, 1)) for ring in rings_at(web, room)])


def is_upright(web, room):
    """Whether each closed walk at a room has the share 1."""
    return all([share_of(web, ring) == (1, 1) for ring in rings_at(web, room)])


def core_room(web, room):
    """The room in which the walk of the home of a room ends."""
    return end_room(web, home_of(web, room)[0])


def demands_of(web, room):
    """The demands of the ways out of the core, seen from the home of a room; None if the room is not level."""
    if not is_level(web, room):
        return None
    _, ties = core_of(web, room)
    ways = first_ways(web, core_room(web, room), ties)[0]
    demands = []
    for tie in ties:
        for side in (1, -1):
            begin = ends_of(web, tie, side)[0]
            toll = toll_along(web, crossings_of(ways[begin]) + [(tie, side)])
            demands.append(((tie, side), toll[0]))
    return tuple(demands)


def even_turns(web, room):
    """The even turns of a room, None if it is not level."""
    demands = demands_of(web, room)
    if demands is None:
        return None
    turns = even_turns_for(demands)
    return turns // gcd(turns, home_of(web, room)[1])


def even_turns_for(demands):
    """The even turns of a room of the core with these demands."""
    turns = 1
    for _, demand in demands:
        turns = lcm(turns, demand)
    return turns


def central_turns(web, room):
    """The least number of turns from 1 on that commutes with each closed walk at a room, None if there is none."""
    if not is_upright(web, room):
        return None
    return even_turns(web, room)


def stray_source(web, room, turns):
    """The first source at a room with which so many turns do not commute, None if there is none."""
    turning = (room, turns, ())
    for source in sources_at(web, room):
        if not are_equal(web, joined_of_any_size([turning, source]), joined_of_any_size([source, turning])):
            return source
    return None


def centre_of(web, room):
    """The kind of the centre at a room, and the centre walks."""
    way = home_of(web, room)[0]
    kind, walks = centre_of_core(web, end_room(web, way))
    return (kind, tuple([brought_along(web, way, walk) for walk in walks]))


def centre_of_core(web, room):
    """The kind of the centre at a room of the core, and the centre walks there in a list."""
    rooms, ties = core_of(web, room)
    if not ties:
        return ("all", [(room, 1, ())])
    if is_ring_of_ones(web, rooms, ties):
        going_round = rings_over(web, room, ties)[0]
        if share_of(web, going_round) == (1, 1):
            return ("all", [(room, 1, ()), going_round])
        return ("rounds", [joined_of_any_size([going_round, going_round])])
    if is_upright(web, room):
        return ("turns", [(room, even_turns_for(demands_of(web, room)), ())])
    return ("none", [])


def is_ring_of_ones(web, rooms, ties):
    """Whether a core with ties is a ring of ends 1 and -1."""
    # With two ends at each room there are as many ties as rooms.
    for room in rooms:
        ends = ends_at(web, room, ties)
        if len(ends) != 2 or any([abs(end) != 1 for end in ends]):
            return False
    return True
