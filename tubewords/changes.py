"""Changes of webs ([51]), and webs that are drawn together by them ([55])."""

from tubewords.errors import NoMove, TooMany
from tubewords.kinds import is_integer, is_integer_from, is_tuple_of
from tubewords.numbering import number_without
from tubewords.webs import ends_of, is_crossing, is_room, is_web

MOST_CHANGES = 8


def can_change(web, change):
    """Whether a value is a change that can be done."""
    return changed_once(web, change) is not None


def changed_web(web, changes):
    """The web that changes lead to, one after the other."""
    return webs_along(web, changes)[-1]


def webs_along(web, changes):
    """The web itself and the webs to which its changes lead, one after the other, in a list."""
    if len(changes) > MOST_CHANGES:
        raise TooMany("changes")
    webs = [web]
    for number, change in enumerate(changes):
        changed = changed_once(webs[-1], change)
        if changed is None:
            raise NoMove(number)
        webs.append(changed)
    return webs


def draws_in(web):
    """The changes by which a web is drawn together."""
    draws = []
    draw = next_draw(web)
    while draw is not None:
        draws.append(draw)
        web = changed_once(web, draw)
        draw = next_draw(web)
    return tuple(draws)


def next_draw(web):
    """The next draw in for a web, None if there is none."""
    for tie in range(len(web[1])):
        for side in (1, -1):
            draw = ("draw in", tie, side)
            if can_change(web, draw):
                return draw
    return None


def changed_once(web, change):
    """The web that a change leads to, None if the value is no change that can be done."""
    changed = changed_beyond(web, change)
    # Rooms, ties and ends may have become too many or too great.
    if changed is None or not is_web(changed):
        return None
    return changed


def changed_beyond(web, change):
    """What a change makes of a web, looking at no bounds of webs; None if the value is no change."""
    if is_tuple_of(change, 2) and change[0] == "turn over":
        return turned_over(web, change[1])
    if is_tuple_of(change, 2) and change[0] == "flip":
        return flipped(web, change[1])
    if is_tuple_of(change, 2) and change[0] == "reverse":
        return reversed_tie(web, change[1])
    if is_tuple_of(change, 5) and change[0] == "slide":
        return slid(web, change[1], change[2], change[3:])
    if is_tuple_of(change, 3) and change[0] == "draw in":
        return drawn_in(web, change[1], change[2])
    if is_tuple_of(change, 4) and change[0] == "draw out":
        return drawn_out(web, change[1], change[2], change[3])
    return None


def is_tie_number(web, value):
    """Whether a value is the number of a tie."""
    return is_integer_from(value, 0, len(web[1]) - 1)


def with_tie(web, number, tie):
    """The web with another tie in the place of the one with this number."""
    return (web[0], web[1][:number] + (tie,) + web[1][number + 1:])


def with_end(tie, which, room, end):
    """The tie with another first room, for 0, or second room, for 1, and another end there."""
    if which == 0:
        return (room, tie[1], end, tie[3])
    return (tie[0], room, tie[2], end)


def turned_over(web, room):
    """A web in which a room is turned over."""
    if not is_room(web, room):
        return None
    return (web[0], tuple(ends_moved(web[1], room, room, -1)))


def flipped(web, number):
    """A web in which both ends of a tie have the other sign."""
    if not is_tie_number(web, number):
        return None
    v, w, p, q = web[1][number]
    return with_tie(web, number, (v, w, -p, -q))


def reversed_tie(web, number):
    """A web in which a tie leads the other way."""
    if not is_tie_number(web, number):
        return None
    v, w, p, q = web[1][number]
    return with_tie(web, number, (w, v, q, p))


def slid(web, number, which, way):
    """A web in which a room of a tie slides along a way over another tie."""
    if not is_tie_number(web, number) or not is_integer_from(which, 0, 1):
        return None
    along, side = way
    if not is_crossing(web, along, side) or along == number:
        return None
    first, second, ahead, behind = ends_of(web, along, side)
    tie = web[1][number]
    if tie[which] != first or tie[2 + which] % ahead != 0:
        return None
    return with_tie(web, number, with_end(tie, which, second, tie[2 + which] // ahead * behind))


def drawn_in(web, number, side):
    """A web in which the room from which a tie is crossed is drawn in along it."""
    if not is_crossing(web, number, side):
        return None
    v, w, ahead, behind = ends_of(web, number, side)
    if v == w or abs(ahead) != 1:
        return None
    moved = ends_moved(web[1][:number] + web[1][number + 1:], v, w, behind * ahead)
    placed = [(number_without(first, v), number_without(second, v), p, q) for first, second, p, q in moved]
    return (web[0] - 1, tuple(placed))


def ends_moved(ties, room, other, times):
    """Ties whose ends at a room are moved to another one, or left there, so many times as great, in a list."""
    moved = []
    for tie in ties:
        for which in (0, 1):
            if tie[which] == room:
                tie = with_end(tie, which, other, tie[2 + which] * times)
        moved.append(tie)
    return moved


def drawn_out(web, room, end, pairs):
    """A web in which a new room, to which rooms of ties come, is drawn out of a room."""
    if not is_room(web, room) or not is_integer(end) or end == 0 or not are_pairs_of(web, pairs):
        return None
    ties = list(web[1])
    for number, which in pairs:
        tie = ties[number]
        if tie[which] != room or tie[2 + which] % end != 0:
            return None
        ties[number] = with_end(tie, which, web[0], tie[2 + which] // end)
    return (web[0] + 1, tuple(ties) + ((web[0], room, 1, end),))


def are_pairs_of(web, value):
    """Whether a value is a tuple of different pairs (tie, which), ascending."""
    if not isinstance(value, tuple):
        return False
    for pair in value:
        if not is_tuple_of(pair, 2) or not is_tie_number(web, pair[0]) or not is_integer_from(pair[1], 0, 1):
            return False
    return all([pair < following for pair, following in zip(value, value[1:])])
