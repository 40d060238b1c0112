"""Papers that show whether walks are equal ([9], [10])."""

from tubewords.errors import NoMove
from tubewords.kinds import is_tuple_of, is_tuple_up_to
from tubewords.plainwalks import are_equal, is_plain, plain_moves
from tubewords.walks import moved_walk, numbers_of

MOST_MOVES = 2000


def equality_paper(web, first, second):
    """A paper that shows whether two walks are equal."""
    moves = plain_moves(web, first)
    others = plain_moves(web, second)
    if are_equal(web, first, second):
        return ("equal", moves + moves_back(web, second, others))
    return ("unlike", moves, others)


def moves_back(web, walk, moves):
    """The moves that take back carries and strikes, from the walk to which they lead to the walk itself."""
    back = []
    for move in moves:
        back.append(move_back(walk, move))
        walk = moved_walk(web, walk, (move,))
    return tuple(back[::-1])


def move_back(walk, move):
    """The move that takes back a carry or a strike that is done to the walk."""
    i = move[1]
    if move[0] == "carry":
        return ("carry", i, -move[2])
    tie, side, _ = walk[2][i - 1]
    return ("put", i - 1, tie, side, numbers_of(walk)[i - 1])


def is_equality_paper(web, first, second, value):
    """Whether a value is a paper, of either kind, for two walks."""
    if is_tuple_of(value, 2) and value[0] == "equal":
        return moved_or_none(web, first, value[1]) == second
    if is_tuple_of(value, 3) and value[0] == "unlike":
        one = moved_or_none(web, first, value[1])
        other = moved_or_none(web, second, value[2])
        if one is None or other is None:
            return False
        return one != other and is_plain(web, one) and is_plain(web, other)
    return False


def moved_or_none(web, walk, value):
    """The walk to which a value leads, None if it is no tuple of moves that can be done, or has too many."""
    if not is_tuple_up_to(value, MOST_MOVES):
        return None
    try:
        return moved_walk(web, walk, value)
    except NoMove:
        return None
