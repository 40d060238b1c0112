"""Walks and rooms that changes of webs carry, and walks that they take back ([52], [53])."""

from tubewords.changes import webs_along
from tubewords.numbering import number_with, number_without
from tubewords.plainwalks import plain_of_any_size, plain_walk
from tubewords.walks import crossings_of, numbers_of, walk_with
from tubewords.webs import ends_of


def carried_walk(web, changes, walk):
    """The plain walk to which changes carry a walk."""
    webs = webs_along(web, changes)
    for before, after, change in zip(webs, webs[1:], changes):
        walk = plain_of_any_size(after, carried_once(before, after, change, walk))
    return plain_walk(webs[-1], walk)


def taken_back(web, changes, walk):
    """The plain walk to which changes take back a walk of the web to which they lead."""
    webs = webs_along(web, changes)
    rows = list(zip(webs, webs[1:], changes))
    for before, after, change in rows[::-1]:
        walk = plain_of_any_size(before, taken_once(before, after, change, walk))
    return plain_walk(web, walk)


def carried_room(web, changes, room):
    """The room in which walks that begin in a room begin when changes carry them."""
    webs = webs_along(web, changes)
    for before, change in zip(webs, changes):
        if change[0] == "draw in":
            room = room_drawn_in(before, change[1:], room)
    return room


def carried_once(before, after, change, walk):
    """What a change from one web to another one makes of a walk, not yet plain."""
    if change[0] == "slide":
        return along_slide(walk, change, change[4])
    if change[0] == "draw in":
        return walk_drawn_in(before, change[1:], walk)
    if change[0] == "draw out":
        return walk_drawn_out(after, new_way(after), walk)
    return there_and_back_alike(before, change, walk)


def taken_once(before, after, change, walk):
    """What a walk comes to, not yet plain, when the change from one web to another one takes it back."""
    if change[0] == "slide":
        return along_slide(walk, change, -change[4])
    if change[0] == "draw in":
        return walk_drawn_out(before, change[1:], walk)
    if change[0] == "draw out":
        return walk_drawn_in(after, new_way(after), walk)
    return there_and_back_alike(before, change, walk)


def new_way(after):
    """The way from the room that was drawn out to reach a web: along the new tie, which is the last one."""
    return (len(after[1]) - 1, 1)


def there_and_back_alike(web, change, walk):
    """What a change makes of a walk that does the same when it takes walks back; the web may be that on either side."""
    if change[0] == "turn over":
        return with_room_times(web, walk, change[1], -1)
    if change[0] == "reverse":
        return with_tie_reversed(walk, change[1])
    return walk


def with_room_times(web, walk, room, times):
    """A walk whose turns in a room are made so many times."""
    numbers = []
    for at, turns in zip(rooms_along(web, walk), numbers_of(walk)):
        if at == room:
            numbers.append(turns * times)
        else:
            numbers.append(turns)
    return walk_with(walk[0], numbers, crossings_of(walk))


def rooms_along(web, walk):
    """The rooms in which the turns of a walk are made, in a list."""
    rooms = [walk[0]]
    for tie, side in crossings_of(walk):
        rooms.append(ends_of(web, tie, side)[1])
    return rooms


def with_tie_reversed(walk, number):
    """A walk that crosses a tie on the other sides."""
    steps = []
    for tie, side, turns in walk[2]:
        if tie == number:
            steps.append((tie, -side, turns))
        else:
            steps.append((tie, side, turns))
    return (walk[0], walk[1], tuple(steps))


def along_slide(walk, change, side):
    """A walk with the crossings put in that a slide asks for, along its tie on a side.

    They go ahead of the tie that slides where it is crossed from the room that slides, behind it otherwise.
    """
    _, number, which, along, _ = change
    steps = []
    for tie, over, turns in walk[2]:
        if tie != number:
            steps.append((tie, over, turns))
        elif (over == 1) == (which == 0):
            steps.extend([(along, side, 0), (tie, over, turns)])
        else:
            steps.extend([(tie, over, 0), (along, -side, turns)])
    return (walk[0], walk[1], tuple(steps))


def room_drawn_in(web, way, room):
    """The number of the room that a room of a web comes to when the room ahead of a way is drawn in along it."""
    v, w, _, _ = ends_of(web, way[0], way[1])
    if room == v:
        return number_without(w, v)
    return number_without(room, v)


def walk_drawn_in(web, way, walk):
    """What a walk of a web comes to when the room ahead of a way is drawn in along it."""
    v, _, ahead, behind = ends_of(web, way[0], way[1])
    told = with_room_times(web, walk, v, behind * ahead)
    numbers = [told[1]]
    crossings = []
    for tie, side, turns in told[2]:
        if tie == way[0]:
            numbers[-1] += turns
        else:
            numbers.append(turns)
            crossings.append((number_without(tie, way[0]), side))
    return walk_with(room_drawn_in(web, way, walk[0]), numbers, crossings)


def walk_drawn_out(web, way, walk):
    """A walk of a web from what it comes to when the room ahead of a way is drawn in along it."""
    number, side = way
    v = ends_of(web, number, side)[0]
    steps = []
    for old_tie, over, turns in walk[2]:
        tie = number_with(old_tie, number)
        begin, end, _, _ = ends_of(web, tie, over)
        if begin == v:
            steps.append((number, -side, 0))
        if end == v:
            steps.extend([(tie, over, 0), (number, side, turns)])
        else:
            steps.append((tie, over, turns))
    return (number_with(walk[0], v), walk[1], tuple(steps))
