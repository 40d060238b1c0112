"""Free numbers and divisors of rooms: the closed walks up to like counts ([58])."""

from tubewords.counts import exchange_rows, rest_rows
from tubewords.rowsums import elementary_divisors, lead_place
from tubewords.sources import ties_of_piece
from tubewords.webs import piece_of


def free_number(web, room):
    """The free number of a room."""
    piece = piece_of(web, room)
    leads = [lead_place(row) for row in rest_rows(web)]
    return len(ties_of_piece(web, room)) + 1 - len([lead for lead in leads if lead in piece])


def divisors_at(web, room):
    """The divisors of a room, ascending."""
    rows = exchange_rows(web)
    within = [rows[tie] for tie in ties_of_piece(web, room)]
    return tuple([divisor for divisor in elementary_divisors(within, web[0]) if divisor > 1])
