"""Idle rooms, cores and homes ([34])."""

from tubewords.sources import ties_of_piece, ways_over
from tubewords.walks import joined_of_any_size
from tubewords.webs import ends_of, piece_of


def core_of(web, room):
    """The rooms and the numbers of the ties of the core of the piece of a room."""
    rooms, ties, _ = core_and_taken(web, room)
    return (tuple(rooms), tuple(ties))


def core_and_taken(web, room):
    """The rooms and the ties of a core in ascending lists, and the crossings out of the rooms taken away, by rooms."""
    rooms = list(piece_of(web, room))
    ties = ties_of_piece(web, room)
    taken = {}
    idle = least_idle(web, rooms, ties)
    while idle is not None:
        tie, side = ways_over(web, idle, ties)[0]
        taken[idle] = (tie, side)
        rooms.remove(idle)
        ties.remove(tie)
        idle = least_idle(web, rooms, ties)
    return (rooms, ties, taken)


def ends_at(web, room, ties):
    """The ends at a room of the ties that are left, in a list."""
    return [ends_of(web, tie, side)[2] for tie, side in ways_over(web, room, ties)]


def least_idle(web, rooms, ties):
    """The least idle room when some rooms and ties are left, None if none is idle."""
    for room in rooms:
        if ends_at(web, room, ties) in ([1], [-1]):
            return room
    return None


def home_of(web, room):
    """The home of a room: a walk to the core, and the number of turns there that one turn of the room comes to."""
    taken = core_and_taken(web, room)[2]
    walks = [(room, 0, ())]
    turns = 1
    at = room
    while at in taken:
        tie, side = taken[at]
        walks.append((at, 0, ((tie, side, 0),)))
        _, at, ahead, behind = ends_of(web, tie, side)
        turns *= ahead * behind
    return (joined_of_any_size(walks), turns)
