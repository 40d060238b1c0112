"""Links of readers, what they carry from cell to cell, and how walks are read along them ([44], [45])."""

from math import gcd, lcm

from tubewords.integers import divides, split_over
from tubewords.webs import ends_of


def turned_link(link):
    """The same link, told from its other cell."""
    u, tie, side, near, x, far = link
    return (x, tie, -side, -far, u, -near)


def links_by_cell(cells, links):
    """For each cell the links over ways at it, told from it, as pairs of their numbers and themselves.

    Links are passed in such pairs, too. One that leads from a cell to itself is told twice there.
    """
    found = {cell: [] for cell in cells}
    for number, link in links:
        found[link[0]].append((number, link))
        found[link[4]].append((number, turned_link(link)))
    return found


def links_of_reader(reader):
    """The links of a reader by its cells, as links_by_cell tells them."""
    cells, links = reader
    return links_by_cell(list(range(len(cells))), list(enumerate(links)))


def way_of(link):
    """The way (tie, side) over which a link is told."""
    return (link[1], link[2])


def steps_apart(web, way, lot):
    """gcd(m, P) of [44]: by how much near turns of different links over a way at a cell with this lot differ."""
    return gcd(lot, ends_of(web, way[0], way[1])[2])


def carried_lot(web, way, lot):
    """Q * (lcm(m, P) / P) of [45], for a way at a cell with this lot."""
    _, _, ahead, behind = ends_of(web, way[0], way[1])
    return behind * (lcm(lot, ahead) // ahead)


def read_along(web, by_cell, lots, plain):
    """Reads a plain walk, beginning at cell 0, as [45] says.

    Returns a list of rows (cell, number of the link, link, times) with how many times its lot is made at the cell
    ahead of the link, and behind it the pair of the cell and the turns at hand at the end; None if it cannot be read.
    """
    rows = []
    cell, at_hand = 0, plain[1]
    for tie, side, following in plain[2]:
        row = link_for(web, by_cell[cell], lots[cell], (tie, side), at_hand)
        if row is None:
            return None
        number, link, (times, many) = row
        rows.append((cell, number, link, times))
        cell = link[4]
        at_hand = ends_of(web, tie, side)[3] * many - link[5] + following
    return (rows, (cell, at_hand))


def read_back(web, by_cell, lots, plain):
    """Reads a plain walk that begins in the room of cell 0, and looks whether it comes back to cell 0 as [45] says.

    Returns the rows of read_along, and how many times its lot is made at cell 0 at the end; None if it is not read.
    """
    along = read_along(web, by_cell, lots, plain)
    if along is None:
        return None
    # A walk that is not closed does not end at a cell of the room of cell 0.
    rows, (cell, at_hand) = along
    if cell != 0 or not divides(lots[0], at_hand):
        return None
    if at_hand == 0:
        return (rows, 0)
    return (rows, at_hand // lots[0])


def link_for(web, found, lot, way, at_hand):
    """The number of the link that is gone over a way with turns at hand, the link, and how the turns are split."""
    ahead = ends_of(web, way[0], way[1])[2]
    for number, link in found:
        if way_of(link) == way:
            parts = split_over(at_hand - link[3], lot, ahead)
            if parts is not None:
                return (number, link, parts)
    return None
