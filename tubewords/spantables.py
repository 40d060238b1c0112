"""Span tables: how the closed walks of a room lead places, of which those of a span lead place 0 to itself ([50])."""

from math import gcd

from tubewords.errors import TooGreat
from tubewords.kinds import is_integer_from, is_tuple_of
from tubewords.links import carried_lot, link_for, links_of_reader, steps_apart, turned_link, way_of
from tubewords.readerforms import plain_form, without_needless_cells
from tubewords.readers import span_reader
from tubewords.sources import ties_of_piece
from tubewords.spans import span_index
from tubewords.webs import ends_of, piece_of, ways_out

MOST_PLACES = 60


def span_table(web, room, walks):
    """A span table of the span of given walks, None if it has no index."""
    index = span_index(web, room, walks)
    if index is None:
        return None
    if index > MOST_PLACES:
        raise TooGreat("index")
    reader = full_reader(web, span_reader(web, room, walks))
    firsts = first_places(reader[0])
    turns = [turns_entry(reader[0], firsts, v) for v in range(web[0])]
    within = ties_of_piece(web, room)
    crossings = []
    for tie in range(len(web[1])):
        if tie in within:
            crossings.append(crossing_entry(web, reader, firsts, tie))
        else:
            crossings.append(())
    return (tuple(turns), tuple(crossings))


def full_reader(web, reader):
    """The full reader of a plain reader whose span has an index ([48])."""
    cells, links = list(reader[0]), list(reader[1])
    at = 0
    while at < len(cells):
        missing = nears_missing(web, cells[at], told_at(links, at))
        for way, near in missing:
            links.append((at, way[0], way[1], near, len(cells), 0))
            cells.append((ends_of(web, way[0], way[1])[1], abs(carried_lot(web, way, cells[at][1]))))
        at += 1
    return (tuple(cells), tuple(links))


def told_at(links, cell):
    """The links over ways at a cell, told from it, in a list."""
    ahead = [link for link in links if link[0] == cell]
    return ahead + [turned_link(link) for link in links if link[4] == cell]


def nears_missing(web, cell, told):
    """The near turns of the links that a cell, told as in a reader, needs besides some, as pairs of ways and turns."""
    room, lot = cell
    missing = []
    for way in ways_out(web, room):
        apart = steps_apart(web, way, lot)
        over = [link[3] % apart for link in told if way_of(link) == way]
        missing.extend([(way, near) for near in range(apart) if near not in over])
    return missing


def first_places(cells):
    """For each cell the number of the place over its room for which no turns at hand at this cell stand, in a list.

    The places behind it are those for 1, 2, .. turns at hand.
    """
    firsts = []
    totals = {}
    for room, lot in cells:
        firsts.append(totals.get(room, 0))
        totals[room] = firsts[-1] + lot
    return firsts


def turns_entry(cells, firsts, room):
    """The tuple of a span table for a room."""
    places = []
    for first, (cell_room, lot) in zip(firsts, cells):
        if cell_room == room:
            places.extend([first + (turns + 1) % lot for turns in range(lot)])
    return tuple(places)


def crossing_entry(web, reader, firsts, tie):
    """The tuple of a span table for a tie of the piece."""
    cells, _ = reader
    by_cell = links_of_reader(reader)
    first_room, _, _, behind = ends_of(web, tie, 1)
    places = []
    for cell, (room, lot) in enumerate(cells):
        if room == first_room:
            for turns in range(lot):
                _, link, (_, many) = link_for(web, by_cell[cell], lot, (tie, 1), turns)
                at_hand = (behind * many - link[5]) % cells[link[4]][1]
                places.append(firsts[link[4]] + at_hand)
    return tuple(places)


def is_span_table(web, room, value):
    """Whether a value is a span table for a web and a room."""
    if not is_tuple_of(value, 2):
        return False
    turns, crossings = value
    if not is_tuple_of(turns, web[0]) or not is_tuple_of(crossings, len(web[1])) or not isinstance(turns[room], tuple):
        return False
    size = len(turns[room])
    if size < 1 or size > MOST_PLACES or not are_entries(web, room, turns, crossings, size):
        return False
    return do_ties_fit(web, room, value) and len(places_reached(web, room, value)) == size * len(piece_of(web, room))


def are_entries(web, room, turns, crossings, size):
    """Whether the members of a value are such as those of a span table of so many places."""
    piece = piece_of(web, room)
    rooms = [is_entry(entry, size, v in piece) for v, entry in enumerate(turns)]
    ties = [is_entry(entry, size, tie[0] in piece) for tie, entry in zip(web[1], crossings)]
    return all(rooms + ties)


def is_entry(value, size, within):
    """Whether a value may stand in a span table of so many places, within the piece or outside of it."""
    if not within:
        return value == ()
    if not is_tuple_of(value, size) or not all([is_integer_from(place, 0, size - 1) for place in value]):
        return False
    return len(set(value)) == size


def do_ties_fit(web, room, table):
    """Whether it makes no difference on which side of each tie of the piece turns are made."""
    turns, crossings = table
    for tie in ties_of_piece(web, room):
        v, w, p, q = web[1][tie]
        ahead = [crossings[tie][place] for place in places_turned(turns[v], p)]
        behind = places_turned(turns[w], q)
        if ahead != [behind[place] for place in crossings[tie]]:
            return False
    return True


def places_turned(turns, count):
    """The places to which so many turns lead the places over a room, in a list."""
    places = list(range(len(turns)))
    for _ in range(abs(count)):
        places = [turns[place] for place in places]
    if count < 0:
        return [places.index(place) for place in range(len(places))]
    return places


def places_reached(web, room, table):
    """The pairs of a room and a place that are reached from place 0 over a room, in a list."""
    turns, crossings = table
    reached = [(room, 0)]
    known = {(room, 0): True}
    at = 0
    while at < len(reached):
        v, place = reached[at]
        found = [(v, turns[v][place])]
        for tie, side in ways_out(web, v):
            found.append((ends_of(web, tie, side)[1], place_over(crossings[tie], side, place)))
        for pair in found:
            if pair not in known:
                known[pair] = True
                reached.append(pair)
        at += 1
    return reached


def place_over(crossing, side, place):
    """The place to which crossing a tie on a side leads a place."""
    if side == 1:
        return crossing[place]
    return crossing.index(place)


def table_reader(web, room, table):
    """The plain reader of the span of a span table."""
    cycles = cycles_of_table(room, table[0])
    found = {}
    for cell, (v, places) in enumerate(cycles):
        for turns, place in enumerate(places):
            found[(v, place)] = (cell, turns)
    links = []
    for tie, crossing in enumerate(table[1]):
        if crossing != ():
            links.extend(links_of_table(web, tie, crossing, cycles, found))
    cells = [(v, len(places)) for v, places in cycles]
    return plain_form(web, without_needless_cells(web, (tuple(cells), tuple(links))))


def cycles_of_table(room, turns):
    """Pairs of a room and the places over it that turns lead to one another, in a list; place 0 over a room is first.

    The places stand in the order in which one turn after the other leads to them.
    """
    cycles = [(room, cycle_from(turns[room], 0))]
    for v, entry in enumerate(turns):
        known = []
        if v == room:
            known.extend(cycles[0][1])
        for place in range(len(entry)):
            if place not in known:
                cycles.append((v, cycle_from(entry, place)))
                known.extend(cycles[-1][1])
    return cycles


def cycle_from(turns, place):
    """The places to which 0, 1, .. turns lead a place, in a list without repeats."""
    places = [place]
    while turns[places[-1]] != place:
        places.append(turns[places[-1]])
    return places


def links_of_table(web, tie, crossing, cycles, found):
    """The links over a tie of the folded reader whose cells are the cycles of a span table, in a list.

    For each room and place found tells the cell, and how many turns lead there from the first place of the cell.
    """
    v, w, p, _ = web[1][tie]
    links = []
    for cell, (room, places) in enumerate(cycles):
        if room == v:
            for near in range(gcd(len(places), p)):
                other, turns = found[(w, crossing[places[near]])]
                links.append((cell, tie, 1, near, other, -turns))
    return links
