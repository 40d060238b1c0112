"""Classes of turns ([29])."""

from tubewords.errors import TooMany
from tubewords.shares import turns_over
from tubewords.turnorder import order_for, primes_of
from tubewords.webs import ends_of, ways_out

MOST_MEMBERS = 500


def turn_class(web, room, turns):
    """All members of the class of a turn, or two members that show that it is endless."""
    members = [(room, turns)]
    met = {(room, turns): True}
    gone = 0
    while gone < len(members):
        for turn in turns_next_to(web, members[gone]):
            if turn not in met:
                partner = partner_of(members, turn)
                if partner is not None:
                    return endless_class(turn, partner)
                if len(members) == MOST_MEMBERS:
                    raise TooMany("members")
                members.append(turn)
                met[turn] = True
        gone += 1
    return ("finite", tuple(in_order(web, members)))


def turns_next_to(web, turn):
    """The turns that come out of a turn over one way out, in the order of the ways out, in a list."""
    room, turns = turn
    found = []
    for tie, side in ways_out(web, room):
        passed = turns_over(web, tie, side, turns)
        if passed is not None:
            found.append((ends_of(web, tie, side)[1], passed))
    return found


def partner_of(members, turn):
    """The earliest met member that goes with a turn to show that the class is endless, None if there is none."""
    for member in members:
        if member[0] == turn[0] and abs(member[1]) != abs(turn[1]):
            if member[1] % turn[1] == 0 or turn[1] % member[1] == 0:
                return member
    return None


def endless_class(turn, partner):
    """The answer for a class that two members show to be endless."""
    if abs(partner[1]) < abs(turn[1]):
        return ("endless", partner, turn)
    return ("endless", turn, partner)


def in_order(web, members):
    """The members of a class in their order, in a list."""
    room, turns = members[0]
    if turns == 0:
        return sorted(members)
    primes = primes_of(web, room)
    return sorted(members, key=lambda turn: order_for(primes, turn))
