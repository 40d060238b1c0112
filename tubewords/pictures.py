"""Affine pictures of walks ([59]), and rooms whose closed walks they tell from one another ([60])."""

from tubewords.changes import ends_moved
from tubewords.quotients import fraction_of, negative_of, product_of, quotient_of, sum_of
from tubewords.sources import ties_of_piece
from tubewords.webs import ends_of

ONE = (1, 1)
ZERO = (0, 1)


def picture_of(web, shifts, walk):
    """The picture of a walk for shifts, an affine map."""
    affine = map_of_turns(walk[1])
    for tie, side, turns in walk[2]:
        affine = map_after(affine, map_of_crossing(web, shifts, tie, side))
        affine = map_after(affine, map_of_turns(turns))
    return affine


def map_of_turns(turns):
    """The affine map that turns do."""
    return (ONE, (turns, 1))


def map_of_crossing(web, shifts, tie, side):
    """The affine map that crossing a tie on a side does."""
    _, _, ahead, behind = ends_of(web, tie, 1)
    forwards = (fraction_of(behind, ahead), shifts[tie])
    if side == 1:
        return forwards
    return map_back(forwards)


def led_by(affine, value):
    """The fraction to which an affine map leads a fraction."""
    return sum_of(product_of(affine[0], value), affine[1])


def map_after(first, second):
    """The affine map that does the first one and then the second one."""
    return (product_of(first[0], second[0]), led_by(second, first[1]))


def map_back(affine):
    """The affine map that undoes another one."""
    times, more = affine
    return (quotient_of(ONE, times), negative_of(quotient_of(more, times)))


def fixed_place(affine):
    """The only fixed place of an affine map, "all" if every fraction is one, None if there is none."""
    times, more = affine
    if times != ONE:
        return quotient_of(more, sum_of(ONE, negative_of(times)))
    if more == ZERO:
        return "all"
    return None


def is_pictured(web, room):
    """Whether a room is pictured."""
    ties = [web[1][tie] for tie in ties_of_piece(web, room)]
    number = first_to_draw(ties)
    while number is not None:
        ties = drawn_along(ties, number)
        number = first_to_draw(ties)
    # If more than one room is left, a tie without an end 1 or -1 leads from one to another.
    return len(ties) <= 1 and all([has_unit_end(tie) for tie in ties])


def has_unit_end(tie):
    """Whether an end of a tie is 1 or -1."""
    return abs(tie[2]) == 1 or abs(tie[3]) == 1


def first_to_draw(ties):
    """The number of the first tie of a list along which a room is drawn together with another one, None without one."""
    for number, tie in enumerate(ties):
        if tie[0] != tie[1] and has_unit_end(tie):
            return number
    return None


def drawn_along(ties, number):
    """The ties that are left, in a list, when two rooms are drawn together along the one with this number."""
    v, w, p, q = ties[number]
    left = ties[:number] + ties[number + 1:]
    if abs(p) == 1:
        return ends_moved(left, v, w, p * q)
    return ends_moved(left, w, v, p * q)
