"""Texts are cut into tokens ([63]), which are taken one after the other."""

from tubewords.errors import BadText

MOST_CHARACTERS = 30000
MOST_DIGITS = 301
DIGITS = "0123456789"
ROOMS = "rooms"


def tokens_of(text):
    """The tokens of a text, each with the place of its first character, in a list."""
    if len(text) > MOST_CHARACTERS:
        raise BadText(MOST_CHARACTERS)
    tokens = []
    at = 0
    while at < len(text):
        if text[at] == " ":
            at += 1
        else:
            end = token_end(text, at)
            if end == at:
                raise BadText(at)
            tokens.append((at, text[at:end]))
            at = end
    return tokens


def token_end(text, at):
    """The place behind the token that begins at a place, which is the place itself if none begins there."""
    if text[at] in ";:":
        return at + 1
    if text[at] in DIGITS:
        return digits_end(text, at)
    if text[at:at + len(ROOMS)] == ROOMS:
        return at + len(ROOMS)
    end = digits_end(text, at + 1)
    # `-` or `t` begins a token only if a digit stands behind it.
    if text[at] not in "-t" or end == at + 1:
        return at
    if text[at] == "t" and text[end:end + 1] == "'":
        return end + 1
    return end


def digits_end(text, at):
    """The place behind the digits that stand from a place on."""
    while at < len(text) and text[at] in DIGITS:
        at += 1
    return at


def integer_of(token):
    """The integer that a token is, None if it is none."""
    digits = token
    if token[0] == "-":
        digits = token[1:]
    if not are_digits(digits) or len(digits) > MOST_DIGITS:
        return None
    if digits[0] == "0" and token != "0":
        return None
    return int(token)


def are_digits(text):
    """Whether a text that is not empty has digits alone."""
    return digits_end(text, 0) == len(text)


def crossing_of(token):
    """The pair (tie, side) of a token that is a crossing whose tie is written in one digit, None for another one."""
    if token[0] != "t":
        return None
    if len(token) == 2:
        return (int(token[1]), 1)
    if token[2:] == "'":
        return (int(token[1]), -1)
    return None


class TokenRow:
    """The tokens of a text while they are taken."""

    def __init__(self, text):
        self.tokens = tokens_of(text)
        self.length = len(text)
        self.at = 0

    def is_over(self):
        """Whether all tokens are taken."""
        return self.at == len(self.tokens)

    def token(self):
        """The next token, a blank if there is none."""
        if self.is_over():
            return " "
        return self.tokens[self.at][1]

    def refuse(self):
        """Raises the error for the next token, or for the one that is missing at the end."""
        if self.is_over():
            raise BadText(self.length)
        raise BadText(self.tokens[self.at][0])

    def take(self):
        """Goes on to the token behind the next one."""
        self.at += 1

    def take_word(self, word):
        """Takes a token that must be this word."""
        if self.token() != word:
            self.refuse()
        self.take()

    def take_integer(self):
        """Takes a token that must be an integer, and returns it."""
        number = integer_of(self.token())
        if number is None:
            self.refuse()
        self.take()
        return number

    def take_from(self, low, high):
        """Takes a token that must be an integer from low to high, and returns it."""
        number = integer_of(self.token())
        if number is None or number < low or number > high:
            self.refuse()
        return self.take_integer()
