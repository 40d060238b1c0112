"""The desk, which answers lines of text ([67])."""

from tubewords.errors import BadText, InUse, NameTaken, NotJoined, NothingToRedo, NothingToUndo, OutOfRange
from tubewords.errors import TooGreat, TooMany, UnknownName
from tubewords.keeper import Keeper
from tubewords.texts import read_walk, read_web, walk_text, web_text
from tubewords.tokens import DIGITS

LETTERS = "abcdefghijklmnopqrstuvwxyz"
LONGEST_NAME = 8


def is_name(text):
    """Whether a text is a NAME."""
    if text == "" or len(text) > LONGEST_NAME or text[0] not in LETTERS:
        return False
    return all([character in LETTERS or character in DIGITS for character in text])


def names_of(rest):
    """The NAMEs in a text with one blank between them, in a list; None if it has another form."""
    names = rest.split(" ")
    if not all([is_name(name) for name in names]):
        return None
    return names


# Each of these answers a line by its keeper and what stands behind its first word, with None for another form.


def answer_keep(keeper, rest):
    """Answers `keep NAME = WALK`."""
    left, sign, text = rest.partition("=")
    name = left.strip(" ")
    if sign == "" or not is_name(name):
        return None
    keeper.keep(name, read_walk(keeper.web_now(), text))
    return "ok"


def answer_forget(keeper, rest):
    """Answers `forget NAME`."""
    if not is_name(rest):
        return None
    keeper.forget(rest)
    return "ok"


def answer_plain(keeper, rest):
    """Answers `plain NAME`."""
    if not is_name(rest):
        return None
    return walk_text(keeper.plain_of_name(rest))


def answer_equal(keeper, rest):
    """Answers `equal NAME NAME`."""
    names = names_of(rest)
    if names is None or len(names) != 2:
        return None
    if keeper.equal_names(names[0], names[1]):
        return "yes"
    return "no"


def answer_join(keeper, rest):
    """Answers `join NAME .. NAME`."""
    names = names_of(rest)
    if names is None:
        return None
    return walk_text(keeper.joined_names(tuple(names)))


def answer_tie(keeper, rest):
    """Answers `tie INTEGERS`."""
    if ";" in rest:
        return None
    rooms, _ = keeper.web_now()
    _, ties = read_web(f"{rooms} rooms; {rest}")
    return f"tie {keeper.add_tie(ties[0])}"


def answer_cut(keeper, rest):
    """Answers `cut NUMBER`."""
    if len(rest) != 1 or rest not in DIGITS:
        return None
    keeper.cut_tie(int(rest))
    return "ok"


def answer_room(keeper, rest):
    """Answers `room`."""
    if rest != "":
        return None
    return f"room {keeper.add_room()}"


def answer_web(keeper, rest):
    """Answers `web`."""
    if rest != "":
        return None
    return web_text(keeper.web_now())


def answer_groups(keeper, rest):
    """Answers `groups`."""
    if rest != "":
        return None
    return "; ".join([" ".join(names) for names in keeper.groups()])


def answer_undo(keeper, rest):
    """Answers `undo`."""
    if rest != "":
        return None
    keeper.undo()
    return "ok"


def answer_redo(keeper, rest):
    """Answers `redo`."""
    if rest != "":
        return None
    keeper.redo()
    return "ok"


ANSWERS = {
    "keep": answer_keep,
    "forget": answer_forget,
    "plain": answer_plain,
    "equal": answer_equal,
    "join": answer_join,
    "tie": answer_tie,
    "cut": answer_cut,
    "room": answer_room,
    "web": answer_web,
    "groups": answer_groups,
    "undo": answer_undo,
    "redo": answer_redo,
}


class Desk:
    """A keeper, and what answers lines about it."""

    def __init__(self, web):
        self.keeper = Keeper(web)

    def line(self, text):
        """The answer to a line."""
        try:
            return answer_or_what(self.keeper, text)
        except BadText:
            return "error text"
        except NameTaken:
            return "error taken"
        except UnknownName:
            return "error name"
        except InUse:
            return "error use"
        except NotJoined:
            return "error joined"
        except TooGreat:
            return "error great"
        except TooMany:
            return "error many"
        except OutOfRange:
            return "error range"
        except NothingToUndo:
            return "error undo"
        except NothingToRedo:
            return "error redo"


def answer_or_what(keeper, text):
    """The answer to a line, where no error comes up."""
    word, _, rest = text.partition(" ")
    if word not in ANSWERS:
        return "what"
    action = ANSWERS[word]
    answer = action(keeper, rest)
    if answer is None:
        return "what"
    return answer
