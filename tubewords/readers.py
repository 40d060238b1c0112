"""Readers ([44] to [46])."""

from tubewords.errors import TooMany
from tubewords.folding import MOST_GIVEN, Folding, check_given
from tubewords.kinds import is_integer, is_integer_from, is_tuple_of
from tubewords.links import carried_lot, links_of_reader, read_back, steps_apart, way_of
from tubewords.integers import divides
from tubewords.plainwalks import plain_of_any_size, plain_walk
from tubewords.readerforms import needless_cell, plain_form
from tubewords.sources import brought_along
from tubewords.walks import joined_of_any_size, opposite_walk
from tubewords.webs import ends_of, is_crossing, is_room


def span_reader(web, room, walks):
    """The plain reader of the span of given walks."""
    check_given(web, room, walks)
    # Folding leaves no needless cell: plain walks go on from a cell over another way than they came, or with turns that
    # the end behind the crossing does not divide, and the lot of a needless cell is a multiple of that end.
    return plain_form(web, Folding(web, room, walks).reader())


def is_reader(web, value):
    """Whether a value is a reader."""
    if not is_tuple_of(value, 2):
        return False
    cells, links = value
    if not isinstance(cells, tuple) or cells == () or not isinstance(links, tuple):
        return False
    if not all([is_cell(web, cell) for cell in cells]):
        return False
    return all([is_link(web, cells, link) for link in links])


def is_cell(web, value):
    """Whether a value is a cell of a reader."""
    return is_tuple_of(value, 2) and is_room(web, value[0]) and is_integer(value[1]) and value[1] >= 0


def is_link(web, cells, value):
    """Whether a value is a link of a reader with these cells."""
    if not is_tuple_of(value, 6):
        return False
    u, tie, side, near, x, far = value
    if not is_crossing(web, tie, side) or not is_integer(near) or not is_integer(far):
        return False
    if not is_integer_from(u, 0, len(cells) - 1) or not is_integer_from(x, 0, len(cells) - 1):
        return False
    return (cells[u][0], cells[x][0]) == ends_of(web, tie, side)[:2]


def is_folded(web, reader):
    """Whether a reader is folded."""
    by_cell = links_of_reader(reader)
    return are_all_reached(by_cell) and do_lots_fit(web, reader, by_cell) and are_links_apart(web, reader, by_cell)


def are_all_reached(by_cell):
    """Whether each cell is reached from cell 0 by links."""
    met = {0: True}
    waiting = [0]
    while waiting:
        for _, link in by_cell[waiting.pop()]:
            if link[4] not in met:
                met[link[4]] = True
                waiting.append(link[4])
    return len(met) == len(by_cell)


def do_lots_fit(web, reader, by_cell):
    """Whether the lots of a reader fit one another along its links."""
    cells, _ = reader
    for cell, found in by_cell.items():
        for _, link in found:
            if not divides(cells[link[4]][1], carried_lot(web, way_of(link), cells[cell][1])):
                return False
    return True


def are_links_apart(web, reader, by_cell):
    """Whether the near turns of different links over one way at one cell differ as they must."""
    cells, _ = reader
    for cell, found in by_cell.items():
        seen = {}
        for _, link in found:
            way = way_of(link)
            key = (way, link[3] % steps_apart(web, way, cells[cell][1]))
            if key in seen:
                return False
            seen[key] = True
    return True


def is_plain_reader(web, reader):
    """Whether a reader is folded and plain."""
    if not is_folded(web, reader) or needless_cell(web, reader) is not None:
        return False
    return plain_form(web, reader) == reader


def reads_walk(web, reader, walk):
    """Whether a folded reader reads a walk."""
    cells, _ = reader
    if walk[0] != cells[0][0]:
        return False
    lots = [lot for _, lot in cells]
    return read_back(web, links_of_reader(reader), lots, plain_of_any_size(web, walk)) is not None


def reader_walks(web, reader):
    """Walks whose span is that of a plain reader."""
    cells, links = reader
    ways = {0: (cells[0][0], 0, ())}
    rings = []
    for link in links:
        way = joined_of_any_size([ways[link[0]], link_walk(cells, link)])
        if link[4] in ways:
            rings.append((way, link[4]))
        else:
            ways[link[4]] = way
    turnings = [cell for cell in range(len(cells)) if cells[cell][1] > 0]
    if len(turnings) + len(rings) > MOST_GIVEN:
        raise TooMany("walks")
    walks = [brought_along(web, ways[cell], cells[cell] + ((),)) for cell in turnings]
    walks.extend([joined_of_any_size([way, opposite_walk(web, ways[cell])]) for way, cell in rings])
    return tuple([plain_walk(web, walk) for walk in walks])


def link_walk(cells, link):
    """The walk along a link: its near turns, the crossing and its far turns."""
    u, tie, side, near, _, far = link
    return (cells[u][0], near, ((tie, side, far),))
