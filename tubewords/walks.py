"""Walks ([3]), the moves that change them ([4]) and their bounds ([5])."""

from tubewords.errors import NoMove, NotClosed, NotJoined, TooGreat, TooMany
from tubewords.kinds import is_integer, is_integer_from, is_tuple_of, is_tuple_up_to
from tubewords.webs import ends_of, is_room, is_way_out

MOST_STEPS = 60

# This is 10 ** 300; exponents above 64 are not written out in this program.
TOO_GREAT_TURNS = (10 ** 60) ** 5


def is_walk(web, value):
    """Whether a value is a walk in the web."""
    if not is_tuple_of(value, 3):
        return False
    room, turns, steps = value
    if not is_room(web, room) or not are_turns(turns) or not is_tuple_up_to(steps, MOST_STEPS):
        return False
    for step in steps:
        if not is_step(web, room, step):
            return False
        room = ends_of(web, step[0], step[1])[1]
    return True


def is_step(web, room, value):
    """Whether a value is a step that can be gone from a room."""
    return is_tuple_of(value, 3) and is_way_out(web, room, value[0], value[1]) and are_turns(value[2])


def are_turns(value):
    """Whether a value is a number of turns within the bounds of [3]."""
    return is_integer(value) and not are_too_great(value)


def are_too_great(turns):
    """Whether a number of turns is too great for a walk."""
    return abs(turns) >= TOO_GREAT_TURNS


def has_great_turns(walk):
    """Whether a number of turns is too great."""
    return any([are_too_great(turns) for turns in numbers_of(walk)])


def bounded_walk(walk):
    """The walk itself, where [5] lets it be returned."""
    if len(walk[2]) > MOST_STEPS:
        raise TooMany("steps")
    if has_great_turns(walk):
        raise TooGreat("turns")
    return walk


def numbers_of(walk):
    """The numbers of turns of a walk in a list, number 0 first."""
    return [walk[1]] + [step[2] for step in walk[2]]


def crossings_of(walk):
    """The pairs (tie, side) of the steps of a walk in a list."""
    return [(tie, side) for tie, side, _ in walk[2]]


def walk_with(room, numbers, crossings):
    """The walk with these numbers of turns, one more than crossings."""
    steps = [(tie, side, turns) for (tie, side), turns in zip(crossings, numbers[1:])]
    return (room, numbers[0], tuple(steps))


def are_opposite(crossing, other):
    """Whether two crossings are of the same tie on opposite sides."""
    return crossing == (other[0], -other[1])


def crossings_back(crossings):
    """The crossings in the opposite order on the opposite sides, in a list."""
    return [(tie, -side) for tie, side in crossings[::-1]]


def end_room(web, walk):
    """The room in which a walk ends."""
    if not walk[2]:
        return walk[0]
    tie, side, _ = walk[2][-1]
    return ends_of(web, tie, side)[1]


def is_closed(web, walk):
    """Whether a walk ends in the room in which it begins."""
    return end_room(web, walk) == walk[0]


def check_closed(web, walk):
    """Nothing is done if the walk is closed."""
    if not is_closed(web, walk):
        raise NotClosed(walk)


def joined_of_any_size(walks):
    """A list of walks joined, looking at no bounds; each one begins in the room in which the one before ends."""
    numbers = numbers_of(walks[0])
    crossings = crossings_of(walks[0])
    for walk in walks[1:]:
        numbers[-1] += walk[1]
        numbers.extend(numbers_of(walk)[1:])
        crossings.extend(crossings_of(walk))
    return walk_with(walks[0][0], numbers, crossings)


def joined_walk(web, first, second):
    """Two walks joined."""
    room = end_room(web, first)
    if room != second[0]:
        raise NotJoined(room, second[0])
    return bounded_walk(joined_of_any_size([first, second]))


def opposite_walk(web, walk):
    """The walk that goes back."""
    numbers = [-turns for turns in numbers_of(walk)[::-1]]
    return walk_with(end_room(web, walk), numbers, crossings_back(crossings_of(walk)))


def power_walk(web, walk, count):
    """A closed walk joined to itself so often, its opposite for a count below 0."""
    check_closed(web, walk)
    if count < 0:
        return power_walk(web, opposite_walk(web, walk), -count)
    if not walk[2]:
        return bounded_walk((walk[0], walk[1] * count, ()))
    # A count may be far greater than what can be joined one by one.
    if len(walk[2]) * count > MOST_STEPS:
        raise TooMany("steps")
    return bounded_walk(joined_of_any_size([(walk[0], 0, ())] + [walk] * count))


def moved_walk(web, walk, moves):
    """The walk that moves lead to, one after the other."""
    for number, move in enumerate(moves):
        walk = moved_once(web, walk, move)
        if walk is None or len(walk[2]) > MOST_STEPS or has_great_turns(walk):
            raise NoMove(number)
    return walk


def moved_once(web, walk, move):
    """The walk that a move leads to, of any size; None if the move cannot be done."""
    if is_tuple_of(move, 3) and move[0] == "carry":
        return carried_over(web, walk, move[1], move[2])
    if is_tuple_of(move, 2) and move[0] == "strike":
        return struck(walk, move[1])
    if is_tuple_of(move, 5) and move[0] == "put":
        return put_in(web, walk, move[1], move[2:4], move[4])
    return None


def carried_over(web, walk, i, many):
    """The walk with turns carried over its step i, None if this is no move."""
    if not is_integer_from(i, 1, len(walk[2])) or not is_integer(many):
        return None
    numbers = numbers_of(walk)
    tie, side, _ = walk[2][i - 1]
    _, _, ahead, behind = ends_of(web, tie, side)
    numbers[i - 1] -= ahead * many
    numbers[i] += behind * many
    return walk_with(walk[0], numbers, crossings_of(walk))


def struck(walk, i):
    """The walk without its steps i and i + 1, None if this is no move."""
    if not is_integer_from(i, 1, len(walk[2]) - 1):
        return None
    numbers = numbers_of(walk)
    crossings = crossings_of(walk)
    if numbers[i] != 0 or not are_opposite(crossings[i - 1], crossings[i]):
        return None
    together = numbers[i - 1] + numbers[i + 1]
    return walk_with(walk[0], numbers[:i - 1] + [together] + numbers[i + 2:], crossings[:i - 1] + crossings[i + 1:])


def put_in(web, walk, i, way, turns):
    """The walk with a crossing there and back behind number i of its turns, None if this is no move."""
    if not is_integer_from(i, 0, len(walk[2])) or not is_integer(turns):
        return None
    room = end_room(web, (walk[0], walk[1], walk[2][:i]))
    tie, side = way
    if not is_way_out(web, room, tie, side):
        return None
    numbers = numbers_of(walk)
    crossings = crossings_of(walk)
    split = [turns, 0, numbers[i] - turns]
    there_and_back = [(tie, side), (tie, -side)]
    return walk_with(walk[0], numbers[:i] + split + numbers[i + 1:], crossings[:i] + there_and_back + crossings[i:])
