"""First ways, rings and sources ([32])."""

from tubewords.errors import NotInOne
from tubewords.walks import joined_of_any_size, opposite_walk
from tubewords.webs import ends_of, piece_of, ways_out


def first_way(web, room, other):
    """The first way from a room to another one of its piece, or to itself."""
    ways = first_ways(web, room, ties_of_piece(web, room))[0]
    if other not in ways:
        raise NotInOne(other)
    return ways[other]


def ties_of_piece(web, room):
    """The numbers of the ties of the piece of a room, ascending, in a list."""
    piece = piece_of(web, room)
    return [number for number, tie in enumerate(web[1]) if tie[0] in piece]


def first_ways(web, room, ties):
    """The first ways to the rooms that are met over some of the ties, in the order in which they are met.

    Behind this dict stands the list of the tree ties.
    """
    ways = {room: (room, 0, ())}
    tree = []
    waiting = [room]
    while waiting:
        at = waiting.pop(0)
        for tie, side in ways_over(web, at, ties):
            other = ends_of(web, tie, side)[1]
            if other not in ways:
                ways[other] = (room, 0, ways[at][2] + ((tie, side, 0),))
                tree.append(tie)
                waiting.append(other)
    return (ways, tree)


def ways_over(web, room, ties):
    """The ways out of a room over some of the ties, in their order, in a list."""
    return [(tie, side) for tie, side in ways_out(web, room) if tie in ties]


def rings_at(web, room):
    """The rings at a room."""
    return rings_over(web, room, ties_of_piece(web, room))


def rings_over(web, room, ties):
    """The rings at a room in the piece with these ties alone."""
    ways, tree = first_ways(web, room, ties)
    rings = []
    for tie in ties:
        if tie not in tree:
            v, w, _, _ = ends_of(web, tie, 1)
            crossing = (v, 0, ((tie, 1, 0),))
            rings.append(joined_of_any_size([ways[v], crossing, opposite_walk(web, ways[w])]))
    return tuple(rings)


def sources_at(web, room):
    """The sources at a room."""
    ways = first_ways(web, room, ties_of_piece(web, room))[0]
    turnings = [brought_along(web, way, (other, 1, ())) for other, way in ways.items()]
    return tuple(turnings) + rings_at(web, room)


def brought_along(web, way, walk):
    """A way, a closed walk at its end and the opposite of the way joined."""
    return joined_of_any_size([way, walk, opposite_walk(web, way)])
