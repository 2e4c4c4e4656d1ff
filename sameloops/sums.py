"""The numbers at parts as sums of numbers at others, and the fewest parts between two nodes."""

from sameloops.rings import OTHER_WAY
from sameloops.wirings import forest, only, parts, rows_from, without


def signed(row):
    """For each part of a row 1 or -1, as it is gone along or against."""
    return {part: 1 if way == "along" else -1 for part, way in row}


def sums(wiring, what, known):
    """For each part a dict: which base parts, times 1 or -1, its current (voltage) is the sum of, always.

    The numbers at the base parts are free. As many of known as can be are base parts, so the parts that known
    settles are those whose base parts are all in known.
    """
    # Parts outside of a forest are the base for currents, those of a forest for voltages.
    ahead = [part for part in parts(wiring) if (part in known) == (what == "voltage")]
    taken = forest([*only(wiring, ahead), *without(wiring, ahead)])
    inner = only(wiring, taken)
    table = {part: {} for part in parts(wiring)}
    for part, start, end in without(wiring, taken):
        around = signed(rows_from(inner, end)[start])
        if what == "voltage":
            table[part] = {passed: -sign for passed, sign in around.items()}
        else:
            table[part][part] = 1
            for passed, sign in around.items():
                table[passed][part] = sign
    if what == "voltage":
        for part in taken:
            table[part] = {part: 1}
    return table


def likeness(table, part, other):
    """1 if the numbers at both are always the same, -1 if always so with the other sign, otherwise None."""
    if table[part] == table[other]:
        return 1
    return -1 if table[part] == {base: -sign for base, sign in table[other].items()} else None


def with_row(flow, row):
    """The pairs (part, way) of flow when the row is gone, too: a part gone both ways is not gone at all."""
    back = [(part, OTHER_WAY[way]) for part, way in row]
    left = [pair for pair in flow if pair not in back]
    return left + [pair for pair, opposite in zip(row, back) if opposite not in flow]


def fewest_between(wiring, start, end):
    """The fewest parts without which two unlike nodes are not connected, and the nodes that start then reaches.

    Rows are gone from start to end until none is left that goes no part twice the same way: then each part
    that is needed on the way is gone by just one row.
    """
    flow = []
    reached = rows_from(wiring, start)
    while end in reached:
        flow = with_row(flow, reached[end])
        reached = rows_from(wiring, start, flow)
    between = [part for part, tail, head in wiring if (tail in reached) != (head in reached)]
    return tuple(between), tuple(reached)
