"""Spans: what is in them, their papers, index and rank ([43], [47], [48])."""

from math import gcd

from tubewords.errors import TooMany
from tubewords.folding import Folding, check_given
from tubewords.links import carried_lot, links_of_reader, way_of
from tubewords.plainwalks import plain_of_any_size
from tubewords.readers import span_reader
from tubewords.spanpapers import row_walks
from tubewords.walks import MOST_STEPS
from tubewords.webs import ends_of, ways_out


def in_span(web, room, walks, walk):
    """Whether a walk is in the span of given walks."""
    check_given(web, room, walks)
    return Folding(web, room, walks).read(walk) is not None


def same_span(web, room, first, second):
    """Whether two tuples of given walks have the same span."""
    return span_reader(web, room, first) == span_reader(web, room, second)


def free_rank(web, room, walks):
    """The rank of the span of given walks if it is free, None otherwise."""
    reader = span_reader(web, room, walks)
    if not is_free(reader):
        return None
    cells, links = reader
    return len(links) - len(cells) + 1


def is_free(reader):
    """Whether the span of a plain reader is free."""
    return all([lot == 0 for _, lot in reader[0]])


def span_paper(web, room, walks, walk):
    """A span paper for a walk in the span of given walks, None if it is not in it."""
    check_given(web, room, walks)
    if sum([len(given[2]) for given in walks]) + len(walk[2]) > MOST_STEPS:
        raise TooMany("steps")
    folding = Folding(web, room, walks)
    last = folding.read(walk)
    if last is None:
        return None
    return folding.span_rows.paper_for(last)


def shows_in_span(web, room, walks, walk, value):
    """Whether a value is a span paper for given walks and a walk."""
    check_given(web, room, walks)
    found = row_walks(web, room, walks, value)
    return found is not None and found[-1] == plain_of_any_size(web, walk)


def span_index(web, room, walks):
    """The index of the span of given walks, None if it has none."""
    reader = span_reader(web, room, walks)
    short = short_ways(web)
    index = 0
    for cell, found in links_of_reader(reader).items():
        cell_room, lot = reader[0][cell]
        if lot == 0:
            return None
        if cell_room == room:
            index += lot
        for way, missing in missing_links(web, cell_room, lot, [way_of(link) for _, link in found]):
            if way not in short:
                return None
            index += missing * lots_put(web, room, way, lot)
    return index


def missing_links(web, room, lot, over):
    """The ways out of the room of a cell over which links are missing, with how many, in a list of pairs.

    The links that the cell has lie over the ways of a list.
    """
    missing = []
    for way in ways_out(web, room):
        many = gcd(lot, ends_of(web, way[0], way[1])[2]) - over.count(way)
        if many > 0:
            missing.append((way, many))
    return missing


def lots_put(web, room, way, lot):
    """The sum of the lots over a room of the new cell that is put behind a short way and of all cells behind it.

    The lot is that of the cell at which the way begins.
    """
    there = ends_of(web, way[0], way[1])[1]
    new_lot = abs(carried_lot(web, way, lot))
    total = 0
    if there == room:
        total = new_lot
    for other, many in missing_links(web, there, new_lot, [(way[0], -way[1])]):
        total += many * lots_put(web, room, other, new_lot)
    return total


def short_ways(web):
    """The short ways of a web, in a list."""
    ways = [(tie, side) for tie in range(len(web[1])) for side in (1, -1)]
    short = []
    more = True
    while more:
        found = [way for way in ways if way not in short and are_short(short, ways_behind(web, way))]
        short.extend(found)
        more = found != []
    return short


def are_short(short, ways):
    """Whether all ways of a list are among short ones."""
    return all([way in short for way in ways])


def ways_behind(web, way):
    """The ways that may follow a way, in a list."""
    _, room, _, behind = ends_of(web, way[0], way[1])
    back = (way[0], -way[1])
    return [other for other in ways_out(web, room) if other != back or abs(behind) != 1]
