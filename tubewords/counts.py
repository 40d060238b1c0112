"""Counts of turns and of ties, and which walks have like counts ([56], [57])."""

from tubewords.errors import NotInOne
from tubewords.rowsums import led_rows, less_times, lessened_by
from tubewords.walks import crossings_of
from tubewords.webs import ends_of


def turn_counts(web, walk):
    """The sums of the numbers of turns of a walk in the rooms of the web."""
    counts = [0] * web[0]
    counts[walk[0]] += walk[1]
    for tie, side, turns in walk[2]:
        counts[ends_of(web, tie, side)[1]] += turns
    return tuple(counts)


def tie_counts(web, walk):
    """How often a walk crosses each tie forwards less how often backwards."""
    counts = [0] * len(web[1])
    for tie, side in crossings_of(walk):
        counts[tie] += side
    return tuple(counts)


def exchange_rows(web):
    """The exchange rows of the ties."""
    rows = []
    for v, w, p, q in web[1]:
        row = [0] * web[0]
        row[v] += p
        row[w] -= q
        rows.append(tuple(row))
    return tuple(rows)


def rest_rows(web):
    """The rest rows of a web."""
    return tuple([tuple(row) for row in led_rows(exchange_rows(web), web[0])])


def rest_of(web, numbers):
    """The rest of integers, one for each room."""
    return tuple(lessened_by(numbers, rest_rows(web)))


def have_like_counts(web, first, second):
    """Whether two walks that begin in one room have like counts."""
    return exchange_multiples(web, first, second) is not None


def exchange_multiples(web, first, second):
    """How many times the exchange rows make up the difference of the turn counts, None without like counts."""
    if first[0] != second[0]:
        raise NotInOne(second[0])
    if tie_counts(web, first) != tie_counts(web, second):
        return None
    # Behind the places of the rooms it is kept how many times each exchange row is in a row.
    none = [0] * len(web[1])
    rows = [list(row) + none[:tie] + [1] + none[tie + 1:] for tie, row in enumerate(exchange_rows(web))]
    difference = less_times(turn_counts(web, first), 1, turn_counts(web, second))
    left = lessened_by(difference + none, led_rows(rows, web[0]))
    if any(left[:web[0]]):
        return None
    return tuple([-times for times in left[web[0]:]])
