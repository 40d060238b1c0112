"""Texts of webs and walks ([62]), and how they are read ([63])."""

from tubewords.tokens import TokenRow, crossing_of
from tubewords.walks import bounded_walk, walk_with
from tubewords.webs import GREATEST_END, MOST_ROOMS, MOST_TIES, ends_of, is_way_out


def web_text(web):
    """The text of a web."""
    ties = [f"; {v} {w} {p} {q}" for v, w, p, q in web[1]]
    return f"{web[0]} rooms" + "".join(ties)


def walk_text(walk):
    """The text of a walk."""
    steps = [f" {crossing_text(tie, side)} {turns}" for tie, side, turns in walk[2]]
    return f"{walk[0]}: {walk[1]}" + "".join(steps)


def crossing_text(tie, side):
    """The text of a crossing."""
    if side == 1:
        return f"t{tie}"
    return f"t{tie}'"


def read_web(text):
    """The web that a text tells."""
    row = TokenRow(text)
    rooms = row.take_from(1, MOST_ROOMS)
    row.take_word("rooms")
    ties = []
    while not row.is_over():
        if len(ties) == MOST_TIES:
            row.refuse()
        row.take_word(";")
        v = row.take_from(0, rooms - 1)
        w = row.take_from(0, rooms - 1)
        p = taken_end(row)
        ties.append((v, w, p, taken_end(row)))
    return (rooms, tuple(ties))


def taken_end(row):
    """Takes a token that must be an end of a tie, and returns it."""
    if row.token() == "0":
        row.refuse()
    return row.take_from(-GREATEST_END, GREATEST_END)


def read_walk(web, text):
    """The walk in a web that a text tells."""
    row = TokenRow(text)
    room = row.take_from(0, web[0] - 1)
    row.take_word(":")
    numbers = [0]
    crossings = []
    at = room
    while not row.is_over():
        crossing = crossing_of(row.token())
        if crossing is None:
            numbers[-1] += row.take_integer()
        else:
            tie, side = crossing
            if not is_way_out(web, at, tie, side):
                row.refuse()
            row.take()
            at = ends_of(web, tie, side)[1]
            crossings.append(crossing)
            numbers.append(0)
    return bounded_walk(walk_with(room, numbers, crossings))
