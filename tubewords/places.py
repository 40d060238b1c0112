"""Places ([12]), their neighbours ([13]), and how walks lead them ([15])."""

from tubewords.errors import NotJoined, OutOfRange, TooMany
from tubewords.kinds import is_integer_from, is_tuple_of, is_tuple_up_to
from tubewords.plainwalks import plain_of_any_size
from tubewords.walks import are_opposite, crossings_of, end_room, joined_of_any_size, numbers_of, walk_with
from tubewords.webs import ends_of, is_room, is_way_out, ways_out

MOST_WAYS = 60
MOST_NEIGHBOURS = 500


def is_place(web, value):
    """Whether a value is a place."""
    if not is_tuple_of(value, 2) or not is_room(web, value[0]) or not is_tuple_up_to(value[1], MOST_WAYS):
        return False
    room = value[0]
    last = None
    for way in value[1]:
        if not is_way_from(web, room, way) or goes_back(last, way):
            return False
        room = ends_of(web, way[1], way[2])[1]
        last = way
    return True


def is_way_from(web, room, value):
    """Whether a value is a way from the room, whatever the way before it may be."""
    if not is_tuple_of(value, 3) or not is_way_out(web, room, value[1], value[2]):
        return False
    ahead = ends_of(web, value[1], value[2])[2]
    return is_integer_from(value[0], 0, abs(ahead) - 1)


def goes_back(last, way):
    """Whether a way leads back over the way before it, None if there is none before it."""
    return last is not None and way[0] == 0 and are_opposite(last[1:], way[1:])


def place_room(web, place):
    """The room of a place."""
    if not place[1]:
        return place[0]
    _, tie, side = place[1][-1]
    return ends_of(web, tie, side)[1]


def place_of(web, walk):
    """The place of a walk, with any number of ways."""
    plain = plain_of_any_size(web, walk)
    ways = [(turns, tie, side) for turns, (tie, side) in zip(numbers_of(plain), crossings_of(plain))]
    return (walk[0], tuple(ways))


def walk_to(web, place):
    """The walk to a place."""
    numbers = [turns for turns, _, _ in place[1]] + [0]
    return walk_with(place[0], numbers, [(tie, side) for _, tie, side in place[1]])


def led_of_any_size(web, walk, place):
    """The place to which a walk leads a place, with any number of ways."""
    room = end_room(web, walk)
    if room != place[0]:
        raise NotJoined(room, place[0])
    return place_of(web, joined_of_any_size([walk, walk_to(web, place)]))


def led_place(web, walk, place):
    """The place to which a walk leads a place."""
    led = led_of_any_size(web, walk, place)
    if len(led[1]) > MOST_WAYS:
        raise TooMany("steps")
    return led


def neighbours(web, place):
    """The places that are joined to a place."""
    ways = ways_out(web, place_room(web, place))
    if sum([abs(ends_of(web, tie, side)[2]) for tie, side in ways]) > MOST_NEIGHBOURS:
        raise TooMany("places")
    found = []
    for tie, side in ways:
        for turns in range(abs(ends_of(web, tie, side)[2])):
            found.append(neighbour_over(place, (turns, tie, side)))
    if any([len(other[1]) > MOST_WAYS for other in found]):
        raise TooMany("steps")
    return tuple(found)


def neighbour_over(place, way):
    """The neighbour to which a way from the room of a place leads."""
    base, ways = place
    if ways and goes_back(ways[-1], way):
        return (base, ways[:-1])
    return (base, ways + (way,))


def place_counts(web, room, size):
    """The numbers of places of a base with 0, 1, .., size ways."""
    if size < 0 or size > MOST_WAYS:
        raise OutOfRange(size)
    # No turns pass over all ways, so all places are counted.
    return counts_of_passed(web, room, 0, size)


def counts_of_passed(web, room, turns, size):
    """The numbers of places of a base with 0, 1, .., size ways over all of which turns of the base pass."""
    totals = {(room, turns): 1}
    by_way = {}
    counts = [1]
    for _ in range(size):
        by_way = counts_one_way_on(web, totals, by_way)
        totals = counts_by_room(web, by_way)
        counts.append(sum(totals.values()))
    return tuple(counts)


def counts_one_way_on(web, totals, by_way):
    """The numbers of places with one way more, by their last tie and side and the turns that come out there."""
    longer = {}
    for (room, turns), many in totals.items():
        for tie, side in ways_out(web, room):
            _, _, ahead, behind = ends_of(web, tie, side)
            if turns % ahead == 0:
                back = by_way.get((tie, -side, turns), 0)
                longer[(tie, side, turns // ahead * behind)] = abs(ahead) * many - back
    return longer


def counts_by_room(web, by_way):
    """The same numbers of places, by the room of the places and the turns that come out there."""
    totals = {}
    for (tie, side, turns), many in by_way.items():
        at = (ends_of(web, tie, side)[1], turns)
        totals[at] = totals.get(at, 0) + many
    return totals
