"""The keeper of named walks in a web that changes ([64], [65])."""

from tubewords.errors import InUse, NameTaken, NothingToRedo, NothingToUndo, OutOfRange, TooMany, UnknownName
from tubewords.kinds import is_integer_from
from tubewords.numbering import number_without
from tubewords.plainwalks import are_equal, plain_of_any_size, plain_walk
from tubewords.walks import joined_walk
from tubewords.webs import MOST_ROOMS, MOST_TIES, is_tie

MOST_NAMES = 20


class Standing:
    """How a keeper stands when a block is entered, and how it stood when the block around it was entered."""

    def __init__(self, keeper):
        self.web = keeper.web
        self.walks = keeper.walks
        self.earlier = keeper.earlier
        self.undone = keeper.undone
        self.around = keeper.standing


class Keeper:
    """A web and named walks in it.

    A change puts a new web or a new dict in the place of the one before, which is kept as it is: in pairs of the web
    and the walks for what can be undone, the last change last, and for what can be done again, the next one last.
    """

    def __init__(self, web):
        self.web = web
        self.walks = {}
        self.earlier = ()
        self.undone = ()
        self.standing = None

    def web_now(self):
        """The web."""
        return self.web

    def names_now(self):
        """The names in the order in which they were kept."""
        return tuple(self.walks)

    def walk_of_name(self, name):
        """The walk of a name."""
        if name not in self.walks:
            raise UnknownName(name)
        return self.walks[name]

    def change_to(self, web, walks):
        """Goes on to a web and named walks, which is a change."""
        self.earlier = self.earlier + ((self.web, self.walks),)
        self.undone = ()
        self.web = web
        self.walks = walks

    def keep(self, name, walk):
        """Keeps a walk under a name, as the last one."""
        if name in self.walks:
            raise NameTaken(name)
        if len(self.walks) == MOST_NAMES:
            raise TooMany("names")
        self.change_to(self.web, {**self.walks, name: walk})

    def forget(self, name):
        """Keeps the walk of a name no longer."""
        if name not in self.walks:
            raise UnknownName(name)
        self.change_to(self.web, {other: walk for other, walk in self.walks.items() if other != name})

    def add_room(self):
        """Adds a room and returns its number."""
        rooms, ties = self.web
        if rooms == MOST_ROOMS:
            raise TooMany("rooms")
        self.change_to((rooms + 1, ties), self.walks)
        return rooms

    def add_tie(self, tie):
        """Adds a tie as the last one and returns its number."""
        rooms, ties = self.web
        if not is_tie(rooms, tie):
            raise OutOfRange(tie)
        if len(ties) == MOST_TIES:
            raise TooMany("ties")
        self.change_to((rooms, ties + (tie,)), self.walks)
        return len(ties)

    def cut_tie(self, number):
        """Takes a tie away that no named walk crosses."""
        rooms, ties = self.web
        if not is_integer_from(number, 0, len(ties) - 1):
            raise OutOfRange(number)
        for name, walk in self.walks.items():
            if number in [tie for tie, _, _ in walk[2]]:
                raise InUse(number, name)
        walks = {name: walk_without(walk, number) for name, walk in self.walks.items()}
        self.change_to((rooms, ties[:number] + ties[number + 1:]), walks)

    def undo(self):
        """Takes back the last change that has not been undone."""
        if self.earlier == ():
            raise NothingToUndo()
        self.undone = self.undone + ((self.web, self.walks),)
        self.web, self.walks = self.earlier[-1]
        self.earlier = self.earlier[:-1]

    def redo(self):
        """Does the change again that was undone last."""
        if self.undone == ():
            raise NothingToRedo()
        self.earlier = self.earlier + ((self.web, self.walks),)
        self.web, self.walks = self.undone[-1]
        self.undone = self.undone[:-1]

    def equal_names(self, first, second):
        """Whether the walks of two names are equal."""
        walk = self.walk_of_name(first)
        return are_equal(self.web, walk, self.walk_of_name(second))

    def plain_of_name(self, name):
        """The plain walk of the walk of a name."""
        return plain_walk(self.web, self.walk_of_name(name))

    def joined_names(self, names):
        """The walks of some names joined, from the first one on."""
        walks = [self.walk_of_name(name) for name in names]
        joined = walks[0]
        for walk in walks[1:]:
            joined = joined_walk(self.web, joined, walk)
        return joined

    def groups(self):
        """The names whose walks are equal, together."""
        found = {}
        for name, walk in self.walks.items():
            plain = plain_of_any_size(self.web, walk)
            found[plain] = found.get(plain, ()) + (name,)
        return tuple(found.values())

    def tried(self, ties):
        """The groups with some ties added, which are taken away again."""
        with self:
            self.add_ties(ties)
            return self.groups()

    def tried_within(self, ties, more, pair):
        """What is tried with more ties behind some ties, and the groups with these ties and a pair of name and walk."""
        with self:
            self.add_ties(ties)
            inner = self.tried(more)
            name, walk = pair
            self.keep(name, walk)
            return (inner, self.groups())

    def add_ties(self, ties):
        """Adds ties one after the other."""
        for tie in ties:
            self.add_tie(tie)

    def __contains__(self, name):
        return name in self.walks

    def __iter__(self):
        return iter(self.walks)

    def __eq__(self, other):
        if not isinstance(other, Keeper):
            return False
        return self.web == other.web and list(self.walks.items()) == list(other.walks.items())

    def __enter__(self):
        self.standing = Standing(self)
        return self

    def __exit__(self, kind, value, trace):
        self.web = self.standing.web
        self.walks = self.standing.walks
        self.earlier = self.standing.earlier
        self.undone = self.standing.undone
        self.standing = self.standing.around


def walk_without(walk, gone):
    """A walk that does not cross a tie, in the web without this tie."""
    steps = [(number_without(tie, gone), side, turns) for tie, side, turns in walk[2]]
    return (walk[0], walk[1], tuple(steps))
