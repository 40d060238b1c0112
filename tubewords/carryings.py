"""Which closed walks are carried into each other, with papers ([23], [24], [30])."""

from tubewords.completion import entries_back
from tubewords.kinds import is_integer, is_integer_from, is_tuple_of
from tubewords.openings import opening_answers
from tubewords.planmaking import plan_of_crossings, plan_of_lines
from tubewords.plans import is_plan, plan_tolls
from tubewords.sources import first_way
from tubewords.turned import trip_and_lap_of_any_size
from tubewords.turnorder import turn_parts
from tubewords.turnrules import are_complete, bounded_completion, brought_down, least_turn, told_rules
from tubewords.webs import piece_of


def are_carried(web, first, second):
    """Whether two closed walks are carried into each other."""
    lap, other = laps_of(web, first, second)
    reason = plain_reason(web, lap, other)
    if reason is not None:
        return False
    if lap[2]:
        return any([answer is not None for answer in opening_answers(web, first, second)])
    return lap[1] == 0 or have_one_least(web, lap, other)


def laps_of(web, first, second):
    """The laps of two walks, of any size, if both are closed."""
    return (trip_and_lap_of_any_size(web, first)[1], trip_and_lap_of_any_size(web, second)[1])


def plain_reason(web, lap, other):
    """The word of the paper that shows plainly that laps are not carried into each other, None if there is none."""
    for reason in ("pieces", "going", "zero", "rests"):
        if is_right_reason(web, lap, other, reason):
            return reason
    return None


def is_right_reason(web, lap, other, reason):
    """Whether the word of such a paper is right for two laps."""
    in_one = other[0] in piece_of(web, lap[0])
    if reason == "pieces":
        return not in_one
    if reason == "going":
        return (lap[2] == ()) != (other[2] == ())
    if lap[2] or other[2]:
        return False
    if reason == "zero":
        return (lap[1] == 0) != (other[1] == 0)
    if reason == "rests":
        return are_turns_of_one_piece(web, lap, other) and rest_of_lap(web, lap) != rest_of_lap(web, other)
    return False


def are_turns_of_one_piece(web, lap, other):
    """Whether two laps without steps have turns that are not 0 and begin in one piece."""
    if lap[2] or other[2] or lap[1] == 0 or other[1] == 0:
        return False
    return other[0] in piece_of(web, lap[0])


def rest_of_lap(web, lap):
    """The rest of the turns, not 0, of a lap without steps."""
    return turn_parts(web, lap[0], lap[1])[1]


def have_one_least(web, lap, other):
    """Whether two laps without steps, with turns that are not 0 in one piece, have the same least turn."""
    return least_turn(web, lap[0], lap[1]) == least_turn(web, other[0], other[1])


def carrying_paper(web, first, second):
    """Whether two closed walks are carried into each other, and a paper that shows it."""
    lap, other = laps_of(web, first, second)
    reason = plain_reason(web, lap, other)
    if reason is not None:
        return (False, ("unlike", reason))
    if lap[2]:
        return paper_of_answers(opening_answers(web, first, second))
    if lap[1] == 0:
        return (True, ("plan", plan_of_crossings(first_way(web, lap[0], other[0]))))
    if have_one_least(web, lap, other):
        return (True, ("plan", carrying_plan(web, lap[:2], other[:2])))
    return (False, ("rules", told_rules(web, lap[0])))


def paper_of_answers(answers):
    """The pair for two walks that go on, by the answers for their openings."""
    for r, answer in enumerate(answers):
        if answer is not None:
            return (True, ("on", r, answer[1]))
    return (False, ("unlike", "answers"))


def carrying_plan(web, turn, other):
    """A plan that carries a turn into another one with the same least turn; both are not 0."""
    completion = bounded_completion(web, turn[0])
    down = completion.least(turn)[1]
    up = entries_back(completion.least(other)[1])
    return plan_of_lines(web, completion.lines, turn[0], down + up)


def shows_carrying(web, first, second, answer, value):
    """Whether a value is a right carrying paper for two walks that shows this answer."""
    lap, other = laps_of(web, first, second)
    if is_tuple_of(value, 3) and value[0] == "on":
        return answer is True and fits_opening(web, lap, other, value[1], value[2])
    if is_tuple_of(value, 2) and value[0] == "plan":
        return answer is True and carries_lap(web, lap, other, value[1])
    if is_tuple_of(value, 2) and value[0] == "unlike":
        return answer is False and is_right_unlike(web, lap, other, value[1])
    if is_tuple_of(value, 2) and value[0] == "rules":
        return answer is False and rules_part(web, lap, other, value[1])
    return False


def fits_opening(web, lap, other, r, j):
    """Whether two laps have steps, and a value j is an integer that fits a value r."""
    if not lap[2] or not other[2] or not is_integer_from(r, 0, len(lap[2]) - 1) or not is_integer(j):
        return False
    answer = opening_answers(web, lap, other)[r]
    if answer is None:
        return False
    if answer[0] == "one":
        return j == answer[1]
    return (j - answer[1]) % answer[2] == 0


def carries_lap(web, lap, other, value):
    """Whether two laps have no steps, and a value is a plan that carries the one, as a turn, into the other one."""
    if lap[2] or other[2] or not is_plan(web, value):
        return False
    begin, end, m, k = plan_tolls(web, value)[-1]
    return begin == lap[0] and end == other[0] and lap[1] % m == 0 and lap[1] // m * k == other[1]


def is_right_unlike(web, lap, other, reason):
    """Whether a value is the word of a right paper that shows plainly that two laps are not carried into each other."""
    if reason == "answers":
        return lap[2] != () and other[2] != () and answers_are_none(web, lap, other)
    return is_right_reason(web, lap, other, reason)


def answers_are_none(web, lap, other):
    """Whether no opening of a lap has an answer."""
    return all([answer is None for answer in opening_answers(web, lap, other)])


def rules_part(web, lap, other, rules):
    """Whether a value are complete rules that bring down two laps, as turns, to unlike turns."""
    if not are_turns_of_one_piece(web, lap, other) or not are_complete(web, lap[0], rules):
        return False
    return brought_down(web, rules, lap[0], lap[1]) != brought_down(web, rules, other[0], other[1])
