"""Given walks are folded to a reader with their span ([43] to [45]).

For each cell some walk W from cell 0 to it is thought of. The word of a link from a cell u to a cell x is W of u, the
near turns, the crossing, the far turns and the opposite of W of x joined; the word of a cell with a lot is W of it, its
lot as turns and the opposite of W joined. All words are in the span, and are told as rows of a span paper.
"""

from math import lcm

from tubewords.errors import NotInOne, TooMany
from tubewords.links import carried_lot, links_by_cell, read_back, steps_apart, way_of
from tubewords.integers import bezout, divides, split_over
from tubewords.plainwalks import plain_of_any_size
from tubewords.spanrows import SpanRows
from tubewords.walks import MOST_STEPS, check_closed, crossings_of, numbers_of
from tubewords.webs import ends_of

MOST_GIVEN = 12


def check_given(web, room, walks):
    """Nothing is done if a tuple of walks can be given walks at a room."""
    if len(walks) > MOST_GIVEN:
        raise TooMany("walks")
    for walk in walks:
        if walk[0] != room:
            raise NotInOne(walk[0])
        check_closed(web, walk)
    if sum([len(walk[2]) for walk in walks]) > MOST_STEPS:
        raise TooMany("steps")


class Folding:
    """A reader that comes of given walks. Links and rooms of cells that are gone are None."""

    def __init__(self, web, room, walks):
        self.web = web
        self.span_rows = SpanRows()
        self.rooms = [room]
        self.lots = [0]
        self.lot_words = [self.span_rows.idle()]
        self.links = []
        self.link_words = []
        for number, walk in enumerate(walks):
            self.put_walk(plain_of_any_size(web, walk), self.span_rows.given(number))
        while self.fold_some_links() or self.carry_some_lot():
            pass

    def put_walk(self, walk, word):
        """Puts links and cells from cell 0 back to it, along which a walk is read."""
        numbers = numbers_of(walk)
        if not walk[2]:
            self.merge_lot(0, walk[1], word)
            return
        at = 0
        crossings = crossings_of(walk)
        for (tie, side), near in zip(crossings[:-1], numbers):
            self.rooms.append(ends_of(self.web, tie, side)[1])
            self.lots.append(0)
            self.lot_words.append(self.span_rows.idle())
            self.put_link((at, tie, side, near, len(self.rooms) - 1, 0), self.span_rows.idle())
            at = len(self.rooms) - 1
        tie, side = crossings[-1]
        self.put_link((at, tie, side, numbers[-2], 0, numbers[-1]), word)

    def put_link(self, link, word):
        """Puts a link with its word."""
        self.links.append(link)
        self.link_words.append(word)

    def cells_left(self):
        """The numbers of the cells that are not gone, in a list."""
        return [cell for cell, room in enumerate(self.rooms) if room is not None]

    def links_left(self):
        """The links that are not gone, by cells."""
        left = [(number, link) for number, link in enumerate(self.links) if link is not None]
        return links_by_cell(self.cells_left(), left)

    def word_of(self, number, link):
        """The word of a link as it is told from one of its cells."""
        if link == self.links[number]:
            return self.link_words[number]
        return self.span_rows.opposite(self.link_words[number])

    def merge_lot(self, cell, turns, word):
        """Lets a cell have so many turns besides its lot; their word is told like that of the lot."""
        lot = self.lots[cell]
        if divides(lot, turns):
            return
        common, times, others = bezout(lot, turns)
        first = self.span_rows.power(self.lot_words[cell], times)
        self.lot_words[cell] = self.span_rows.joined(first, self.span_rows.power(word, others))
        self.lots[cell] = common

    def carry_some_lot(self):
        """Carries the lot of some cell over a link where this changes the other lot; returns whether there is one."""
        row = self.lot_to_carry()
        if row is None:
            return False
        cell, number, link = row
        ahead = ends_of(self.web, link[1], link[2])[2]
        word = self.word_of(number, link)
        power = self.span_rows.power(self.lot_words[cell], lcm(self.lots[cell], ahead) // self.lots[cell])
        there = self.span_rows.joined(self.span_rows.opposite(word), self.span_rows.joined(power, word))
        self.merge_lot(link[4], carried_lot(self.web, way_of(link), self.lots[cell]), there)
        return True

    def lot_to_carry(self):
        """A cell, the number of a link from it and the link, where the other lot does not divide what is carried."""
        for cell, found in self.links_left().items():
            for number, link in found:
                if not divides(self.lots[link[4]], carried_lot(self.web, way_of(link), self.lots[cell])):
                    return (cell, number, link)
        return None

    def fold_some_links(self):
        """Makes one link of two over one way at some cell that must be one; returns whether there are such."""
        row = self.links_to_fold()
        if row is None:
            return False
        cell, kept, gone = row
        # Cell 0 is not to go.
        if gone[1][4] == 0:
            kept, gone = gone, kept
        self.fold(cell, kept, gone)
        return True

    def links_to_fold(self):
        """A cell and two links over one way at it with near turns that differ too little, in pairs with their numbers.

        None if there are no such links.
        """
        for cell, found in self.links_left().items():
            seen = {}
            for number, link in found:
                way = way_of(link)
                key = (way, link[3] % steps_apart(self.web, way, self.lots[cell]))
                if key in seen:
                    return (cell, seen[key], (number, link))
                seen[key] = (number, link)
        return None

    def fold(self, cell, kept, gone):
        """Makes one link of two; each is a pair of its number and itself as it is told from the cell."""
        (number, link), (other, second) = kept, gone
        _, _, ahead, behind = ends_of(self.web, link[1], link[2])
        times, many = split_over(second[3] - link[3], self.lots[cell], ahead)
        apart = second[5] + behind * many - link[5]
        back = self.span_rows.opposite(self.word_of(number, link))
        shifted = self.span_rows.joined(self.span_rows.power(self.lot_words[cell], -times), self.word_of(other, second))
        word = self.span_rows.joined(back, shifted)
        self.links[other] = None
        if link[4] == second[4]:
            self.merge_lot(link[4], apart, word)
        else:
            self.merge_cell(link[4], second[4], apart, word)

    def merge_cell(self, kept, gone, apart, word):
        """Makes one cell of two.

        The word is W of the kept cell, the turns apart and the opposite of W of the other cell joined.
        """
        back = self.span_rows.opposite(word)
        for number, link in enumerate(list(self.links)):
            if link is not None and link[0] == gone:
                self.links[number] = (kept, link[1], link[2], link[3] + apart, link[4], link[5])
                self.link_words[number] = self.span_rows.joined(word, self.link_words[number])
        for number, link in enumerate(list(self.links)):
            if link is not None and link[4] == gone:
                self.links[number] = link[:4] + (kept, link[5] - apart)
                self.link_words[number] = self.span_rows.joined(self.link_words[number], back)
        self.rooms[gone] = None
        lot_word = self.span_rows.joined(word, self.span_rows.joined(self.lot_words[gone], back))
        self.merge_lot(kept, self.lots[gone], lot_word)

    def reader(self):
        """The folded reader, with needless cells."""
        places = {cell: place for place, cell in enumerate(self.cells_left())}
        cells = [(self.rooms[cell], self.lots[cell]) for cell in places]
        links = [link for link in self.links if link is not None]
        placed = [(places[link[0]],) + link[1:4] + (places[link[4]], link[5]) for link in links]
        return (tuple(cells), tuple(placed))

    def read(self, walk):
        """The number of a row for a walk, None if it is not in the span."""
        if walk[0] != self.rooms[0]:
            return None
        found = read_back(self.web, self.links_left(), self.lots, plain_of_any_size(self.web, walk))
        if found is None:
            return None
        rows, last = found
        word = self.span_rows.idle()
        for begin, number, link, times in rows:
            word = self.span_rows.joined(word, self.span_rows.power(self.lot_words[begin], times))
            word = self.span_rows.joined(word, self.word_of(number, link))
        return self.span_rows.joined(word, self.span_rows.power(self.lot_words[0], last))
