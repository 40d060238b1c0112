"""Webs, their ties and their pieces ([2])."""

from tubewords.kinds import is_integer_from, is_side, is_tuple_of, is_tuple_up_to

MOST_ROOMS = 5
MOST_TIES = 7
GREATEST_END = 1000


def is_web(value):
    """Whether a value is a web."""
    if not is_tuple_of(value, 2):
        return False
    rooms, ties = value
    if not is_integer_from(rooms, 1, MOST_ROOMS) or not is_tuple_up_to(ties, MOST_TIES):
        return False
    return all([is_tie(rooms, tie) for tie in ties])


def is_tie(rooms, value):
    """Whether a value is a tie of a web with so many rooms."""
    if not is_tuple_of(value, 4):
        return False
    v, w, p, q = value
    return are_rooms(rooms, v, w) and is_end(p) and is_end(q)


def are_rooms(rooms, v, w):
    """Whether two values are numbers of rooms."""
    return is_integer_from(v, 0, rooms - 1) and is_integer_from(w, 0, rooms - 1)


def is_end(value):
    """Whether a value is an end of a tie."""
    return is_integer_from(value, -GREATEST_END, GREATEST_END) and value != 0


def is_room(web, value):
    """Whether a value is the number of a room of the web."""
    return is_integer_from(value, 0, web[0] - 1)


def is_crossing(web, tie, side):
    """Whether two values are a tie of the web and a side."""
    return is_integer_from(tie, 0, len(web[1]) - 1) and is_side(side)


def is_way_out(web, room, tie, side):
    """Whether two values are a tie that can be crossed from the room and the side for it."""
    return is_crossing(web, tie, side) and ends_of(web, tie, side)[0] == room


def ends_of(web, tie, side):
    """The room from which a tie is crossed, the one to which, the end ahead, the end behind."""
    v, w, p, q = web[1][tie]
    if side == 1:
        return (v, w, p, q)
    return (w, v, q, p)


def ways_out(web, room):
    """The pairs (tie, side) that are crossed from a room."""
    ways = []
    for number, tie in enumerate(web[1]):
        if tie[0] == room:
            ways.append((number, 1))
        if tie[1] == room:
            ways.append((number, -1))
    return tuple(ways)


def piece_of(web, room):
    """The rooms of the piece of a room, ascending."""
    met = [room]
    waiting = [room]
    while waiting:
        at = waiting.pop()
        for tie, side in ways_out(web, at):
            other = ends_of(web, tie, side)[1]
            if other not in met:
                met.append(other)
                waiting.append(other)
    return tuple(sorted(met))


def pieces_of(web):
    """The pieces, ascending by their first rooms."""
    pieces = []
    for room in range(web[0]):
        piece = piece_of(web, room)
        if piece[0] == room:
            pieces.append(piece)
    return tuple(pieces)
