"""Own webs of spans, whose walks stand for the walks of the spans ([49])."""

from math import lcm

from tubewords.errors import TooMany
from tubewords.links import carried_lot, links_of_reader, read_back, turned_link, way_of
from tubewords.plainwalks import plain_of_any_size, plain_walk
from tubewords.readers import link_walk, span_reader
from tubewords.spans import is_free
from tubewords.walks import joined_of_any_size, walk_with
from tubewords.webs import MOST_ROOMS, MOST_TIES, ends_of


def own_web(web, room, walks):
    """The own web of the span of given walks, None if the span is free."""
    reader = span_reader(web, room, walks)
    if is_free(reader):
        return None
    return web_of_reader(web, reader)


def web_of_reader(web, reader):
    """The web that a plain reader whose lots are above 0 becomes."""
    cells, links = reader
    if len(cells) > MOST_ROOMS:
        raise TooMany("rooms")
    if len(links) > MOST_TIES:
        raise TooMany("ties")
    return (len(cells), tuple([own_tie(web, cells, link) for link in links]))


def own_tie(web, cells, link):
    """The tie that a link becomes."""
    u, tie, side, _, x, _ = link
    lot = cells[u][1]
    ahead = ends_of(web, tie, side)[2]
    return (u, x, lcm(lot, ahead) // lot, carried_lot(web, way_of(link), lot) // cells[x][1])


def walk_out(web, room, walks, walk):
    """The plain walk for which a walk in the own web of a span that is not free stands."""
    reader = span_reader(web, room, walks)
    # What it raises comes first.
    web_of_reader(web, reader)
    cells, links = reader
    pieces = [lots_made(cells, walk[0], walk[1])]
    for number, side, turns in walk[2]:
        link = links[number]
        if side == -1:
            link = turned_link(link)
        pieces.extend([link_walk(cells, link), lots_made(cells, link[4], turns)])
    return plain_walk(web, joined_of_any_size(pieces))


def lots_made(cells, cell, times):
    """The walk that makes the lot of a cell so many times."""
    room, lot = cells[cell]
    return (room, times * lot, ())


def walk_in(web, room, walks, walk):
    """The plain walk in the own web that stands for a walk, None if this is not in the span, which is not free."""
    reader = span_reader(web, room, walks)
    own = web_of_reader(web, reader)
    cells, links = reader
    if walk[0] != room:
        return None
    lots = [lot for _, lot in cells]
    found = read_back(web, links_of_reader(reader), lots, plain_of_any_size(web, walk))
    if found is None:
        return None
    rows, last = found
    numbers = [times for _, _, _, times in rows] + [last]
    crossings = [(number, side_told(links[number], link)) for _, number, link, _ in rows]
    return plain_walk(own, walk_with(0, numbers, crossings))


def side_told(link, told):
    """The side on which the tie that a link becomes is crossed along the link as it is told from one of its cells."""
    if told == link:
        return 1
    return -1
