"""Rows of span papers while they are put together ([47])."""


class SpanRows:
    """Rows of a span paper; what adds a row returns its number, or that of a row that stands for the same already."""

    def __init__(self):
        self.rows = [("idle",)]

    def idle(self):
        """The row of the idle walk."""
        return 0

    def added(self, row):
        """The number of a row that is added."""
        self.rows.append(row)
        return len(self.rows) - 1

    def given(self, number):
        """A row for the given walk of a number."""
        return self.added(("given", number))

    def opposite(self, number):
        """A row for the opposite of the walk of a row."""
        row = self.rows[number]
        if row[0] == "opposite":
            return row[1]
        if number == 0:
            return number
        return self.added(("opposite", number))

    def joined(self, first, second):
        """A row for the walks of two rows joined."""
        if first == 0:
            return second
        if second == 0:
            return first
        return self.added(("joined", first, second))

    def power(self, number, count):
        """A row for a power of the walk, which stays, of a row."""
        if number == 0 or count == 0:
            return 0
        if count == 1:
            return number
        if count == -1:
            return self.opposite(number)
        return self.added(("power", number, count))

    def paper_for(self, last):
        """The span paper whose last row is the one with this number; it has no rows that are not needed for it."""
        needed = {last: True}
        for number in range(last, -1, -1):
            if number in needed:
                for earlier in earlier_rows(self.rows[number]):
                    needed[earlier] = True
        places = {}
        paper = []
        for number in range(last + 1):
            if number in needed:
                places[number] = len(paper)
                paper.append(placed_row(places, self.rows[number]))
        return tuple(paper)


def earlier_rows(row):
    """The numbers of the rows that a row names, in a list."""
    if row[0] == "joined":
        return [row[1], row[2]]
    if row[0] in ("opposite", "power"):
        return [row[1]]
    return []


def placed_row(places, row):
    """A row that names the rows by their new numbers."""
    if row[0] == "joined":
        return ("joined", places[row[1]], places[row[2]])
    if row[0] in ("opposite", "power"):
        return (row[0], places[row[1]]) + row[2:]
    return row
