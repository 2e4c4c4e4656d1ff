"""States of a wiring with rules, solved another way: with heights of nodes and fractions of the library."""

from fractions import Fraction

from tests.support import node_names

LINES = {"open": (1, 0, 0), "short": (0, 1, 0), "any": (0, 0, 0)}


def line(rule):
    """p, q and s of a RULE."""
    if rule[0] == "resistor":
        return (-rule[1], 1, 0)
    if rule[0] == "battery":
        return (0, 1, rule[1])
    if rule[0] == "source":
        return (1, 0, rule[1])
    return tuple(rule[1:]) if rule[0] == "line" else LINES[rule[0]]


def solve(rows, many):
    """A solution of the rows and the directions in which others lie; None if there is none."""
    rows = [[Fraction(number) for number in row] for row in rows]
    pivots = []
    for column in range(many):
        found = [row for row in rows[len(pivots):] if row[column]]
        if found:
            at = len(pivots)
            place = [k for k in range(at, len(rows)) if rows[k][column]][0]
            rows[at], rows[place] = rows[place], rows[at]
            rows[at] = [number / rows[at][column] for number in rows[at]]
            for k in range(len(rows)):
                if k != at:
                    rows[k] = [mine - rows[k][column] * its for mine, its in zip(rows[k], rows[at])]
            pivots.append(column)
    if any(row[many] for row in rows[len(pivots):]):
        return None
    one = [Fraction(0)] * many
    for at, column in enumerate(pivots):
        one[column] = rows[at][many]
    directions = []
    for free in range(many):
        if free not in pivots:
            direction = [Fraction(int(column == free)) for column in range(many)]
            for at, column in enumerate(pivots):
                direction[column] = -rows[at][free]
            directions.append(direction)
    return one, directions


def states(wiring, rules):
    """A state, as a row of pairs (current, voltage), and the directions of all others; None if there is none."""
    names = node_names(wiring)
    many = len(wiring) + len(names)
    rows = []
    for node in names:
        rows.append([(item[2] == node) - (item[1] == node) for item in wiring] + [0] * (len(names) + 1))
    for at, (item, (_, rule)) in enumerate(zip(wiring, rules)):
        p, q, s = line(rule)
        row = [0] * many + [s]
        row[at] = p
        row[len(wiring) + names.index(item[1])] += q
        row[len(wiring) + names.index(item[2])] -= q
        rows.append(row)
    found = solve(rows, many)
    if found is None:
        return None

    def pairs(values):
        height = dict(zip(names, values[len(wiring):]))
        return [(values[at], height[item[1]] - height[item[2]]) for at, item in enumerate(wiring)]

    one, directions = found
    directions = [pairs(direction) for direction in directions]
    return pairs(one), [direction for direction in directions if any(any(pair) for pair in direction)]


def rank(rows):
    """How many of the rows of fractions do not depend on others."""
    rows, many = [list(row) for row in rows], 0
    while rows:
        row = rows.pop()
        lead = [at for at, number in enumerate(row) if number]
        if lead:
            many += 1
            rows = [[mine - other[lead[0]] / row[lead[0]] * its for mine, its in zip(other, row)] for other in rows]
    return many


def flat(pairs):
    return [number for pair in pairs for number in pair]


def written(values):
    """A FRACTION, or None."""
    return None if values is None else (values.numerator, values.denominator)


def bench(wiring, rules):
    """What bench must return."""
    found = states(wiring, rules)
    if found is None:
        return None
    one, directions = found
    told = []
    for at, item in enumerate(wiring):
        fixed = [None if any(direction[at][k] for direction in directions) else one[at][k] for k in (0, 1)]
        told.append((item[0], written(fixed[0]), written(fixed[1])))
    return tuple(told)


def freedom(wiring, rules):
    found = states(wiring, rules)
    return None if found is None else rank([flat(direction) for direction in found[1]])


def keeps(wiring, rules, pairs):
    """Whether the pairs (current, voltage) are a state that keeps the rules."""
    balance = dict.fromkeys(node_names(wiring), 0)
    for (_, start, end), (current, _) in zip(wiring, pairs):
        balance[start] -= current
        balance[end] += current
    if any(balance.values()):
        return False
    height = {}
    for first in node_names(wiring):
        height.setdefault(first, 0)
        for _ in wiring:
            for (_, start, end), (_, voltage) in zip(wiring, pairs):
                if start in height:
                    height.setdefault(end, height[start] - voltage)
                elif end in height:
                    height[start] = height[end] + voltage
    if any(height[start] - height[end] != voltage for (_, start, end), (_, voltage) in zip(wiring, pairs)):
        return False
    lines = [line(rule) for _, rule in rules]
    return all(p * current + q * voltage == s for (p, q, s), (current, voltage) in zip(lines, pairs))


def seen(wiring, rules, part):
    """What seen must return."""
    at = [item[0] for item in wiring].index(part)
    found = states(wiring, [rule if rule[0] != part else (part, ("any",)) for rule in rules])
    if found is None:
        return ("none",)
    one, directions = found[0][at], [direction[at] for direction in found[1] if any(direction[at])]
    if not directions:
        return ("point", written(one[0]), written(one[1]))
    if rank([list(direction) for direction in directions]) == 2:
        return ("any",)
    current, voltage = directions[0]
    p, q = (-voltage, current) if voltage < 0 or voltage == 0 and current > 0 else (voltage, -current)
    scale = max([abs(p), abs(q)])
    p, q = p / scale, q / scale
    s = p * one[0] + q * one[1]
    bottom = p.denominator * q.denominator * s.denominator
    whole = [int(number * bottom) for number in (p, q, s)]
    divisor = next(k for k in range(max(map(abs, whole)), 0, -1) if all(number % k == 0 for number in whole))
    return ("line", *[number // divisor for number in whole])
