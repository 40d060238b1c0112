"""The order of turns ([27])."""

from tubewords.errors import NotInOne, OutOfRange
from tubewords.webs import piece_of


def primes_of(web, room):
    """The primes of a room, ascending."""
    piece = piece_of(web, room)
    primes = []
    for v, _, p, q in web[1]:
        if v in piece:
            primes.extend([prime for prime in prime_divisors(p * q) if prime not in primes])
    return tuple(sorted(primes))


def prime_divisors(number):
    """The primes that divide a number that is not 0, ascending, in a list."""
    left = abs(number)
    primes = []
    divisor = 2
    while divisor * divisor <= left:
        if left % divisor == 0:
            primes.append(divisor)
        while left % divisor == 0:
            left //= divisor
        divisor += 1
    if left > 1:
        primes.append(left)
    return primes


def turn_parts(web, room, turns):
    """The sign, the rest and the exponents of an integer that is not 0, for the primes of a room."""
    if turns == 0:
        raise OutOfRange(0)
    return parts_for(primes_of(web, room), turns)


def parts_for(primes, turns):
    """The sign, the rest and the exponents of an integer that is not 0, for some primes."""
    sign = 1
    if turns < 0:
        sign = -1
    rest = abs(turns)
    exponents = []
    for prime in primes:
        exponent = 0
        while rest % prime == 0:
            rest //= prime
            exponent += 1
        exponents.append(exponent)
    return (sign, rest, tuple(exponents))


def comes_before(web, first, second):
    """Whether the first turn comes before the second one."""
    if first[1] == 0 or second[1] == 0:
        raise OutOfRange(0)
    if second[0] not in piece_of(web, first[0]):
        raise NotInOne(second[0])
    primes = primes_of(web, first[0])
    return order_for(primes, first) < order_for(primes, second)


def order_for(primes, turn):
    """What is lesser for the turn that comes before, of turns that are not 0 of one piece with these primes."""
    room, turns = turn
    sign, rest, exponents = parts_for(primes, turns)
    lowered = tuple([-exponent for exponent in exponents])
    return (rest, sum(exponents), lowered, room, -sign)
