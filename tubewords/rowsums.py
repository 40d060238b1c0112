"""Sums of integer multiples of rows of integers ([57], [58]).

Rows may be longer than the places that are looked at; what stands behind these comes along, whatever is done.
"""

from math import gcd, lcm


def led_rows(rows, places):
    """Rows with the same sums as some rows, in a list, as [57] wants the rest rows; rows of 0 are left out."""
    left = rows
    led = []
    for place in range(places):
        having, left = cleared_at(left, place)
        if having:
            lead = having[0]
            if lead[place] < 0:
                lead = [-number for number in lead]
            led = [less_times(row, row[place] // lead[place], lead) for row in led] + [lead]
    return led


def less_times(row, times, other):
    """A row less so many times another one, in a list."""
    return [here - times * there for here, there in zip(row, other)]


def cleared_at(rows, place):
    """Rows with the same sums of which one at most has no 0 at a place: a list of it alone, and one of the others."""
    having = [row for row in rows if row[place] != 0]
    others = [row for row in rows if row[place] == 0]
    while len(having) > 1:
        least = min(having, key=lambda row: abs(row[place]))
        having.remove(least)
        lessened = [less_times(row, row[place] // least[place], least) for row in having]
        having = [least] + [row for row in lessened if row[place] != 0]
        others.extend([row for row in lessened if row[place] == 0])
    return (having, others)


def lead_place(row):
    """The place of the first integer of a row that is not 0, None if there is none."""
    for place, number in enumerate(row):
        if number != 0:
            return place
    return None


def lessened_by(row, led):
    """What is left of a row when multiples of led rows are taken from it until it is as [57] says of a rest."""
    left = list(row)
    for lead in led:
        place = lead_place(lead)
        left = less_times(left, left[place] // lead[place], lead)
    return left


def elementary_divisors(rows, places):
    """Integers above 0, each dividing the next one, in a list, one for each led row.

    Up to sums of multiples of the rows, the rows of so many places stand for rests mod these, and for as many integers
    as there are places more.
    """
    size = places
    led = led_rows(rows, size)
    # Rows and columns are cleared in turn: the first integer becomes lesser until it divides all beside and below it.
    while not is_diagonal(led):
        turned = [[row[place] for row in led] for place in range(size)]
        size = len(led)
        led = led_rows(turned, size)
    return chained([row[number] for number, row in enumerate(led)])


def is_diagonal(rows):
    """Whether each row has 0 everywhere but at the place of its own number."""
    for number, row in enumerate(rows):
        if any(row[:number]) or any(row[number + 1:]):
            return False
    return True


def chained(numbers):
    """As many integers above 0, each dividing the next one, that stand for the same rests, in a list."""
    chain = list(numbers)
    for number in range(len(chain)):
        for other in range(number + 1, len(chain)):
            first, second = chain[number], chain[other]
            chain[number], chain[other] = gcd(first, second), lcm(first, second)
    return chain
