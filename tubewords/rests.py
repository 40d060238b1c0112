"""Rest maps: what the pictures of walks do with the rests for a modulus ([61])."""

from math import gcd

from tubewords.errors import OutOfRange
from tubewords.integers import bezout
from tubewords.pictures import picture_of

GREATEST_MODULUS = 1000


def is_modulus(web, number):
    """Whether an integer is a modulus for the web."""
    if number < 2 or number > GREATEST_MODULUS:
        return False
    return all([gcd(number, p) == 1 and gcd(number, q) == 1 for _, _, p, q in web[1]])


def rest_map(web, number, shifts, walk):
    """The rest map of a walk for a modulus and whole shifts."""
    if not is_modulus(web, number):
        raise OutOfRange(number)
    times, more = picture_of(web, tuple([(shift, 1) for shift in shifts]), walk)
    return (rest_of_fraction(times, number), rest_of_fraction(more, number))


def rest_of_fraction(fraction, number):
    """The rest that a fraction is read as; its lower integer has no divisor above 1 in common with the modulus."""
    above, below = fraction
    return above * bezout(below, number)[1] % number


def rest_table(web, number, shifts, walk):
    """The rests to which 0, 1, .. are led by the rest map of a walk."""
    times, more = rest_map(web, number, shifts, walk)
    return tuple([(times * rest + more) % number for rest in range(number)])
