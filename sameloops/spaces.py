"""Sets of parts as numbers: part k stands in the set if bit k of the number is 1.

The sum of two sets has what stands in just one of them. The sums of rings are a space, its least sets are the
rings; so with cuts. A set of the one space and one of the other have an even number of parts in common.
"""


def set_number(names, members):
    """The number of the set of those members of names."""
    return sum([1 << at for at, name in enumerate(names) if name in members])


def places_in(number):
    """The places of the bits of the number that are 1, ascending."""
    return [at for at in range(number.bit_length()) if number >> at & 1]


def base_of(numbers):
    """Numbers of which the sums are those of the given ones; the highest bit of each is 0 in all others."""
    base = []
    for number in numbers:
        for row in base:
            # A sum is less exactly if the highest bit of the row was 1.
            number = min(number, number ^ row)
        if number:
            base = [min(row, row ^ number) for row in base] + [number]
    return base


def crossing(base, many):
    """A base of the other space over so many parts: of all that has an even number in common with each row."""
    highest = [row.bit_length() - 1 for row in base]
    found = []
    for at in range(many):
        if at not in highest:
            found.append((1 << at) + sum([1 << high for row, high in zip(base, highest) if row >> at & 1]))
    return found


def least_sets(base):
    """The sums of rows of the base, but for 0, of which none has all of another one; those of fewer parts first."""
    numbers = [0]
    for row in base:
        numbers = numbers + [number ^ row for number in numbers]
    found = []
    for _, number in sorted([(len(places_in(number)), number) for number in numbers]):
        if number and not any([number & least == least for least in found]):
            found.append(number)
    return found
