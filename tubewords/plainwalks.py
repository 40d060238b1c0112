"""Plain walks ([7]), how they are found ([8]) and how great they become ([11])."""

from tubewords.errors import TooGreat
from tubewords.walks import are_too_great, bounded_walk, numbers_of, walk_with
from tubewords.webs import ends_of


def go_along(web, walk):
    """What [8] does: the plain walk, of any size, the plain moves, and the numbers that come up by the moves."""
    room, turns, steps = walk
    kept = []
    moves = []
    made = []
    for tie, side, following in steps:
        _, _, ahead, behind = ends_of(web, tie, side)
        left = turns % abs(ahead)
        many = (turns - left) // ahead
        turns = behind * many + following
        if many != 0:
            moves.append(("carry", len(kept) + 1, many))
            made.append(turns)
        if left == 0 and kept and kept[-1][:2] == (tie, -side):
            moves.append(("strike", len(kept)))
            turns += kept.pop()[2]
            made.append(turns)
        else:
            kept.append((tie, side, left))
    numbers = [left for _, _, left in kept] + [turns]
    plain = walk_with(room, numbers, [(tie, side) for tie, side, _ in kept])
    return (plain, tuple(moves), made)


def plain_of_any_size(web, walk):
    """The plain walk, looking at no bounds."""
    return go_along(web, walk)[0]


def is_plain(web, walk):
    """Whether a walk is plain."""
    # A plain walk is its own plain walk, and each walk has just one.
    return plain_of_any_size(web, walk) == walk


def plain_walk(web, walk):
    """The plain walk of a walk."""
    return bounded_walk(plain_of_any_size(web, walk))


def plain_moves(web, walk):
    """The moves that make a walk plain."""
    _, moves, made = go_along(web, walk)
    if any([are_too_great(turns) for turns in made]):
        raise TooGreat("turns")
    return moves


def are_equal(web, first, second):
    """Whether two walks are equal."""
    return plain_of_any_size(web, first) == plain_of_any_size(web, second)


def reach_of(web, walk):
    """The amount below which the last number of the plain walk stays."""
    most = max([abs(turns) for turns in numbers_of(walk)])
    bases = [2]
    for tie, side, _ in walk[2]:
        _, _, ahead, behind = ends_of(web, tie, side)
        bases.extend([abs(ahead), abs(behind)])
    base = max(bases)
    reach = 2 * (most + base)
    for _ in walk[2]:
        reach *= base
    return reach
