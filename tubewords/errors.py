"""The errors of the package ([6])."""


class WebError(ValueError):
    """All errors of the package stand directly under this one."""


class NotJoined(WebError):
    """Something ends in a room, and what should follow begins in another one."""

    def __init__(self, room, other):
        self.room = room
        self.other = other


class NotClosed(WebError):
    """A walk does not end in the room in which it begins."""

    def __init__(self, walk):
        self.walk = walk


class NoMove(WebError):
    """The move, or the change, with this number cannot be done."""

    def __init__(self, number):
        self.number = number


class TooMany(WebError):
    """There are too many of what is told."""

    def __init__(self, what):
        self.what = what


class TooGreat(WebError):
    """A number of what is told is too great."""

    def __init__(self, what):
        self.what = what


class NotInOne(WebError):
    """This room does not go together with an earlier one."""

    def __init__(self, room):
        self.room = room


class Stays(WebError):
    """A walk stays where one that goes on is wanted."""

    def __init__(self, walk):
        self.walk = walk


class OutOfRange(WebError):
    """A value is none of those that may be passed."""

    def __init__(self, value):
        self.value = value


class BadText(WebError):
    """A text cannot be read on from this place."""

    def __init__(self, place):
        self.place = place


class NameTaken(WebError):
    """A walk of this name is kept already."""

    def __init__(self, name):
        self.name = name


class UnknownName(WebError):
    """No walk of this name is kept."""

    def __init__(self, name):
        self.name = name


class InUse(WebError):
    """The named walk crosses the tie."""

    def __init__(self, tie, name):
        self.tie = tie
        self.name = name


class NothingToUndo(WebError):
    """There is no change to take back."""


class NothingToRedo(WebError):
    """There is no change to do again."""
