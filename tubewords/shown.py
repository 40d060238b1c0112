"""One checker: questions, their answers, and certificates for these ([66])."""

from tubewords.carryings import are_carried, carrying_paper, shows_carrying
from tubewords.commuting import do_commute
from tubewords.kinds import is_tuple_of
from tubewords.papers import equality_paper, is_equality_paper
from tubewords.plainwalks import are_equal
from tubewords.readers import is_folded, is_reader, reads_walk, span_reader
from tubewords.spans import in_span, same_span, shows_in_span, span_paper
from tubewords.walks import joined_walk


def answer_to(web, question):
    """The answer to a question."""
    kind = question[0]
    if kind == "equal":
        return are_equal(web, question[1], question[2])
    if kind == "carried":
        return are_carried(web, question[1], question[2])
    if kind == "commute":
        return do_commute(web, question[1], question[2])
    if kind == "in span":
        return in_span(web, question[1], question[2], question[3])
    return same_span(web, question[1], question[2], question[3])


def certified(web, question):
    """The answer to a question, and a certificate for it."""
    kind = question[0]
    if kind == "carried":
        # This tells the answer, too, and raises what are_carried raises.
        return carrying_paper(web, question[1], question[2])
    answer = answer_to(web, question)
    if kind == "equal":
        return (answer, equality_paper(web, question[1], question[2]))
    if kind == "commute":
        there, back = both_joined(web, question[1], question[2])
        return (answer, equality_paper(web, there, back))
    if kind == "in span":
        return (answer, span_certificate(web, question[1:], answer))
    return (answer, spans_certificate(web, question[1:], answer))


def both_joined(web, first, second):
    """Two closed walks joined, and joined the other way round."""
    there = joined_walk(web, first, second)
    return (there, joined_walk(web, second, first))


def span_certificate(web, asked, answer):
    """A certificate for the answer whether a walk is in the span of given walks at a room."""
    room, given, walk = asked
    if answer:
        return span_paper(web, room, given, walk)
    return span_reader(web, room, given)


def spans_certificate(web, asked, answer):
    """A certificate for the answer whether two tuples of given walks at a room have the same span."""
    room, first, second = asked
    if answer:
        return (papers_for(web, room, second, first), papers_for(web, room, first, second))
    reader = span_reader(web, room, first)
    if are_read(web, reader, second):
        # All of the second span is in the first one, so that not all of the first one is in the second one.
        return span_reader(web, room, second)
    return reader


def papers_for(web, room, given, walks):
    """The tuple of span papers of walks for given walks."""
    return tuple([span_paper(web, room, given, walk) for walk in walks])


def are_read(web, reader, walks):
    """Whether a folded reader reads all walks."""
    return all([reads_walk(web, reader, walk) for walk in walks])


def is_certified(web, question, answer, certificate):
    """Whether an answer to a question is right, and a value is a certificate for it."""
    if answer != answer_to(web, question):
        return False
    kind = question[0]
    if kind == "equal":
        return is_equality_paper(web, question[1], question[2], certificate)
    if kind == "carried":
        return shows_carrying(web, question[1], question[2], answer, certificate)
    if kind == "commute":
        there, back = both_joined(web, question[1], question[2])
        return is_equality_paper(web, there, back, certificate)
    if kind == "in span":
        return shows_span_answer(web, question[1:], answer, certificate)
    return shows_spans_answer(web, question[1:], answer, certificate)


def shows_span_answer(web, asked, answer, value):
    """Whether a value is a certificate for the right answer whether a walk is in a span."""
    room, given, walk = asked
    if answer:
        return shows_in_span(web, room, given, walk, value)
    if not is_folded_at(web, room, value):
        return False
    return are_read(web, value, given) and not reads_walk(web, value, walk)


def shows_spans_answer(web, asked, answer, value):
    """Whether a value is a certificate for the right answer whether two spans are the same."""
    room, first, second = asked
    if answer:
        if not is_tuple_of(value, 2):
            return False
        return are_papers_for(web, room, second, first, value[0]) and are_papers_for(web, room, first, second, value[1])
    return is_folded_at(web, room, value) and are_read(web, value, first) != are_read(web, value, second)


def is_folded_at(web, room, value):
    """Whether a value is a folded reader with this room as the room of cell 0."""
    return is_reader(web, value) and value[0][0][0] == room and is_folded(web, value)


def are_papers_for(web, room, given, walks, value):
    """Whether a value is a tuple of span papers of walks for given walks, in their order."""
    if not is_tuple_of(value, len(walks)):
        return False
    return all([shows_in_span(web, room, given, walk, paper) for walk, paper in zip(walks, value)])
