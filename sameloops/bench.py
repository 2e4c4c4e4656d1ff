"""The bench: parts with simple rules, and the exact currents and voltages that keep them."""

from math import gcd

from sameloops.alike import differences
from sameloops.equations import fraction, solved, times, total
from sameloops.rings import first_leak, heights, ring_table
from sameloops.sums import signed, sums
from sameloops.wirings import check_parts, check_same_parts, is_number, parts

BOTH = ("current", "voltage")
# How many numbers stand behind the word of a RULE.
NUMBERS = {"resistor": 1, "battery": 1, "source": 1, "open": 0, "short": 0, "any": 0, "line": 3}
# Those without numbers, written as a line.
PLAIN = {"open": (1, 0, 0), "short": (0, 1, 0), "any": (0, 0, 0)}


def is_rule(thing):
    """Whether thing is a RULE."""
    if type(thing) is not tuple or thing == () or thing[0] not in list(NUMBERS):
        return False
    if len(thing) != NUMBERS[thing[0]] + 1 or not all([is_number(number) for number in thing[1:]]):
        return False
    if thing[0] == "line":
        return thing[1:3] != (0, 0)
    return thing[0] != "resistor" or thing[1] >= 1


def is_fraction(thing):
    """Whether thing is a FRACTION."""
    if type(thing) is not tuple or len(thing) != 2 or not all([is_number(number) for number in thing]):
        return False
    return thing[1] > 0 and gcd(thing[0], thing[1]) == 1


def is_row_with(wiring, thing, many, belongs):
    """Whether thing is a tuple of tuples of a part and so many things that belong, one for each part, in order."""
    if type(thing) is not tuple or not all([type(item) is tuple and len(item) == many + 1 for item in thing]):
        return False
    return parts(thing) == parts(wiring) and all([belongs(value) for item in thing for value in item[1:]])


def is_rule_row(wiring, thing):
    """Whether thing is a RULE ROW of the wiring."""
    return is_row_with(wiring, thing, 1, is_rule)


def is_state_row(wiring, thing):
    """Whether thing is a STATE ROW of the wiring."""
    return is_row_with(wiring, thing, 2, is_fraction)


def drawn_equations(wiring):
    """What the wiring asks of currents and voltages: pairs of a dict, a number for each (part, what), and a sum."""
    found = []
    for what in BOTH:
        for part, row in sums(wiring, what, ()).items():
            # The numbers at base parts are free.
            if row != {part: 1}:
                numbers = {(base, what): -sign for base, sign in row.items()}
                numbers[(part, what)] = 1
                found.append((numbers, 0))
    return found


def line_of(rule):
    """The numbers p, q and s of the RULE, written as a line; p and q are 0 if it allows every pair."""
    word = rule[0]
    if word == "line":
        return tuple(rule[1:])
    if word == "resistor":
        return (rule[1], -1, 0)
    if word == "battery":
        return (0, 1, rule[1])
    if word == "source":
        return (1, 0, rule[1])
    return PLAIN[word]


def rule_equations(rules):
    """What the rules ask of currents and voltages, as in drawn_equations."""
    lines = [(part, line_of(rule)) for part, rule in rules]
    return [({(part, "current"): line[0], (part, "voltage"): line[1]}, line[2]) for part, line in lines]


def places_of(wiring, last):
    """All pairs (part, what), those of the parts in last behind all others."""
    names = [part for part in parts(wiring) if part not in last]
    return [(part, what) for part in [*names, *last] for what in BOTH]


def states(wiring, rules, last):
    """The solved rows of the states that keep the rules, with the places of places_of; None if there are none."""
    places = places_of(wiring, last)
    rows = [[numbers.get(place, 0) for place in places] + [amount]
            for numbers, amount in drawn_equations(wiring) + rule_equations(rules)]
    return solved(rows, len(places))


def settled_places(wiring, rules):
    """For each (part, what) of which a solved row tells it the pair of the row and its place; None without states."""
    rows = states(wiring, rules, ())
    if rows is None:
        return None
    places = places_of(wiring, ())
    firsts = [[at for at, number in enumerate(row) if number != 0][0] for row in rows]
    return {places[at]: (row, at) for row, at in zip(rows, firsts)}


def written_row(wiring, values):
    """The tuple of triples (part, current, voltage) with these values of pairs (part, what)."""
    return tuple([(part, values[(part, "current")], values[(part, "voltage")]) for part in parts(wiring)])


def is_state(wiring, rules, rows):
    """Whether the STATE ROW is a state of the wiring that keeps the rules."""
    values = {(row[0], what): row[at + 1] for row in rows for at, what in enumerate(BOTH)}
    for numbers, amount in drawn_equations(wiring) + rule_equations(rules):
        if total([times((number, 1), values[place]) for place, number in numbers.items()]) != (amount, 1):
            return False
    return True


def some_state(wiring, rules):
    """A state that keeps the rules; None if there is none."""
    told = settled_places(wiring, rules)
    if told is None:
        return None
    values = {(part, what): (0, 1) for part in parts(wiring) for what in BOTH}
    for place, (row, at) in told.items():
        values[place] = fraction(row[len(row) - 1], row[at])
    return written_row(wiring, values)


def bench(wiring, rules):
    """The currents and voltages that are the same in all states that keep the rules, None for the others."""
    told = settled_places(wiring, rules)
    if told is None:
        return None
    values = {(part, what): None for part in parts(wiring) for what in BOTH}
    for place, (row, at) in told.items():
        if not any(row[at + 1:-1]):
            values[place] = fraction(row[len(row) - 1], row[at])
    return written_row(wiring, values)


def freedom(wiring, rules):
    """The fewest currents and voltages to fix so that one state is left; None if no state keeps the rules."""
    told = settled_places(wiring, rules)
    return None if told is None else 2 * len(wiring) - len(told)


def same_states(one, other, rules):
    """Whether both have the same states that keep the rules."""
    check_same_parts(one, other)
    return states(one, rules, ()) == states(other, rules, ())


def seen(wiring, rules, part):
    """What the rules of the other parts leave to this part."""
    check_parts(wiring, (part,))
    rows = states(wiring, [rule for rule in rules if rule[0] != part], (part,))
    if rows is None:
        return ("none",)
    found = [row[-3:] for row in rows if not any(row[:-3])]
    if found == []:
        return ("any",)
    if len(found) == 1:
        return ("line", *found[0])
    return ("point", fraction(found[0][2], found[0][0]), fraction(found[1][2], found[1][1]))


def power(rows):
    """The sum of current times voltage over all parts."""
    return cross(rows, rows)


def cross(rows, others):
    """The sum of the current in rows times the voltage in others, part by part."""
    check_same_parts(rows, others)
    return total([times(row[1], other[2]) for row, other in zip(rows, others)])


def row_signs(wiring, ring):
    """1, -1 or 0 for each part, as the RING goes it."""
    signs = signed(ring)
    return [signs.get(part, 0) for part in parts(wiring)]


def lets_through(wiring, ring):
    """Whether a current round the RING keeps the nodes of the wiring."""
    return first_leak(wiring, row_signs(wiring, ring)) is None


def cross_states(one, other):
    """A triple (number, rows, others) of states for which cross is not 0; None if the two are alike."""
    check_same_parts(one, other)
    pairs = differences(one, other, ring_table, lets_through)
    if pairs == []:
        return None
    number, ring = pairs[0]
    lacking = other if number == 0 else one
    node = first_leak(lacking, row_signs(lacking, ring))
    # The node lifted by 1: cross is what leaks there.
    lifted = [(1 if start == node else 0) - (1 if end == node else 0) for _, start, end in lacking]
    rows = [(part, (sign, 1), (0, 1)) for part, sign in zip(parts(one), row_signs(one, ring))]
    return (number, tuple(rows), tuple([(part, (0, 1), (drop, 1)) for part, drop in zip(parts(one), lifted)]))


def possible_states(wiring, tables):
    """All tuples of places in the pairs of each part such that these pairs together are a state."""
    rows = [()]
    for _, pairs in tables:
        rows = [row + (at,) for row in rows for at in range(len(pairs))]
    found = []
    for row in rows:
        told = [pairs[at] for (_, pairs), at in zip(tables, row)]
        if first_leak(wiring, [pair[0] for pair in told]) is None:
            if heights(wiring, [pair[1] for pair in told]) is not None:
                found.append(row)
    return tuple(found)
