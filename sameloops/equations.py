"""Equations with whole numbers in them, solved exactly, and fractions in their lowest terms.

A row holds the numbers before the unknowns, in order, and behind them the number that they add up to.
"""

from math import gcd


def fraction(top, bottom):
    """The FRACTION of two numbers, bottom above 0."""
    divisor = gcd(top, bottom)
    return (top // divisor, bottom // divisor)


def total(fractions):
    """The sum of fractions, a FRACTION."""
    top, bottom = 0, 1
    for one, other in fractions:
        top, bottom = fraction(top * other + one * bottom, bottom * other)
    return (top, bottom)


def times(one, other):
    """The product of two fractions, a FRACTION."""
    return fraction(one[0] * other[0], one[1] * other[1])


def leading(row):
    """The first number of the row that is not 0."""
    return [number for number in row if number != 0][0]


def lowest(row):
    """The row, not all 0, divided by what divides all of it, the first number that is not 0 above 0."""
    divisor = 0
    for number in row:
        divisor = gcd(divisor, number)
    if leading(row) < 0:
        divisor = -divisor
    return [number // divisor for number in row]


def swept(row, pivot, column, last):
    """The row, times a number, with a multiple of the pivot taken away so that it has 0 in the column."""
    # What stands here are determinants of the first numbers, so the division by the last pivot leaves no rest.
    return [(number * pivot[column] - row[column] * lead) // last for number, lead in zip(row, pivot)]


def solved(rows, many):
    """The rows that say the same of many unknowns as briefly as can be; None if nothing solves them.

    Each has a first unknown of its own that no other row has. For rows with the same solutions they are the same.
    """
    done, rest, last = [], rows, 1
    for column in range(many):
        places = [at for at, row in enumerate(rest) if row[column] != 0]
        if places:
            pivot = rest[places[0]]
            others = rest[:places[0]] + rest[places[0] + 1:]
            done = [swept(row, pivot, column, last) for row in done] + [pivot]
            rest = [swept(row, pivot, column, last) for row in others]
            last = pivot[column]
    if any([row[many] != 0 for row in rest]):
        return None
    return [lowest(row) for row in done]
