"""Integers that divide one another, 0 among them."""

from math import gcd


def divides(divisor, number):
    """Whether an integer divides another one; 0 divides 0 alone."""
    if divisor == 0:
        return number == 0
    return number % divisor == 0


def bezout(first, second):
    """(g, a, b): the greatest common divisor of two integers, not both 0, and a, b with a * first + b * second = g."""
    row, other = (first, 1, 0), (second, 0, 1)
    while other[0] != 0:
        times = row[0] // other[0]
        row, other = other, tuple([here - times * there for here, there in zip(row, other)])
    if row[0] < 0:
        row = tuple([-number for number in row])
    return row


def split_over(number, lot, ahead):
    """(e, d) with number = e * lot + d * ahead, None if there are none; ahead is not 0, and e is 0 if the lot is 0."""
    common = gcd(lot, ahead)
    if number % common != 0:
        return None
    times = bezout(lot, ahead)[1] * (number // common) % abs(ahead // common)
    return (times, (number - times * lot) // ahead)
