"""Fractions ([31]) and what is done with them."""

from math import gcd


def fraction_of(above, below):
    """The fraction of one integer over another one that is not 0, in lowest terms."""
    common = gcd(above, below)
    if below < 0:
        common = -common
    return (above // common, below // common)


def sum_of(first, second):
    """The sum of two fractions."""
    return fraction_of(first[0] * second[1] + second[0] * first[1], first[1] * second[1])


def product_of(first, second):
    """The product of two fractions."""
    return fraction_of(first[0] * second[0], first[1] * second[1])


def quotient_of(first, second):
    """One fraction over another one that is not 0."""
    return fraction_of(first[0] * second[1], first[1] * second[0])


def negative_of(fraction):
    """A fraction with the other sign."""
    return (-fraction[0], fraction[1])
