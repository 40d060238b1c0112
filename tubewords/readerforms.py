"""The plain form of folded readers ([45], [46])."""

from tubewords.links import carried_lot, links_of_reader, steps_apart, turned_link, way_of
from tubewords.integers import split_over
from tubewords.numbering import number_without
from tubewords.webs import ends_of, ways_out


def needless_cell(web, reader):
    """The first needless cell of a folded reader, None if there is none."""
    cells, _ = reader
    for cell, found in links_of_reader(reader).items():
        # A link that leads from the cell to itself is told twice.
        if cell != 0 and len(found) == 1:
            back = turned_link(found[0][1])
            if cells[cell][1] == abs(carried_lot(web, way_of(back), cells[back[0]][1])):
                return cell
    return None


def without_needless_cells(web, reader):
    """A folded reader with the same span and no needless cell."""
    cell = needless_cell(web, reader)
    while cell is not None:
        reader = without_cell(reader, cell)
        cell = needless_cell(web, reader)
    return reader


def without_cell(reader, gone):
    """A reader without one of its cells and the links at it."""
    cells, links = reader
    left = [link for link in links if gone not in (link[0], link[4])]
    placed = [(number_without(link[0], gone),) + link[1:4] + (number_without(link[4], gone), link[5]) for link in left]
    return (cells[:gone] + cells[gone + 1:], tuple(placed))


class PlainForm:
    """A folded reader without needless cells, while it is told plainly.

    Where a cell is met, what stands for no turns there is chosen anew, by its shift.
    """

    def __init__(self, web, reader):
        self.web = web
        self.old_cells = reader[0]
        self.by_cell = links_of_reader(reader)
        self.met = [0]
        self.numbers = {0: 0}
        self.shifts = {0: 0}
        self.done = {}
        self.links = []
        at = 0
        while at < len(self.met):
            self.go_through(self.met[at])
            at += 1

    def go_through(self, cell):
        """Tells the links over the ways at a cell that have not been met."""
        for way in ways_out(self.web, self.old_cells[cell][0]):
            over = [(number, link) for number, link in self.by_cell[cell] if way_of(link) == way]
            for number, link in sorted(over, key=lambda row: self.near_of(cell, row[1])):
                if number not in self.done:
                    self.done[number] = True
                    self.tell(cell, link)

    def near_of(self, cell, link):
        """The near turns of a link at a met cell as they are told."""
        return (link[3] + self.shifts[cell]) % steps_apart(self.web, way_of(link), self.old_cells[cell][1])

    def tell(self, cell, link):
        """Tells a link from a met cell."""
        _, tie, side, near, other, far = link
        _, _, ahead, behind = ends_of(self.web, tie, side)
        told_near = self.near_of(cell, link)
        _, many = split_over(near + self.shifts[cell] - told_near, self.old_cells[cell][1], ahead)
        told_far = far + behind * many
        if other not in self.numbers:
            self.numbers[other] = len(self.met)
            self.shifts[other] = told_far
            self.met.append(other)
        told_far -= self.shifts[other]
        lot = self.old_cells[other][1]
        if lot != 0:
            told_far %= lot
        self.links.append((self.numbers[cell], tie, side, told_near, self.numbers[other], told_far))

    def reader(self):
        """The plain reader."""
        return (tuple([self.old_cells[cell] for cell in self.met]), tuple(self.links))


def plain_form(web, reader):
    """The plain reader with the span of a folded reader without needless cells."""
    return PlainForm(web, reader).reader()
