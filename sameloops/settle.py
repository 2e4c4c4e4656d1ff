"""Which currents or voltages settle which others, with the sum, and what meters at some parts can tell."""

from itertools import combinations

from sameloops.rings import first_leak, heights, oriented
from sameloops.sums import fewest_between, likeness, signed, sums
from sameloops.wirings import bridged, check_parts, forest, groups, is_ascending, is_number, nodes, only, parts, rank
from sameloops.wirings import rows_from, without


def left_of(names, gone):
    """Those of names that are not among the gone ones."""
    return tuple([name for name in names if name not in gone])


def settled(wiring, what, known):
    """The set of all parts that known settles."""
    check_parts(wiring, known)
    table = sums(wiring, what, known)
    return tuple([part for part in parts(wiring) if all([base in known for base in table[part]])])


def settles_all(wiring, what, known):
    """Whether known settles all parts."""
    return len(settled(wiring, what, known)) == len(wiring)


def always_zero(wiring, what):
    """The set of the parts at which all currents (voltages) are 0."""
    return settled(wiring, what, ())


def known_row(wiring, known, part):
    """The SUM of the parts of known on the shortest row from the start of the part to its end."""
    _, start, end = only(wiring, (part,))[0]
    return tuple(sorted(signed(rows_from(only(wiring, known), start)[end]).items()))


def known_cut(wiring, known, part):
    """The SUM of the fewest parts of known that are a CUT with the part."""
    # Unknown parts lie within the halves, so their ends are taken as one node.
    joined = bridged(wiring, left_of(parts(wiring), [part, *known]))
    _, start, end = only(joined, (part,))[0]
    between, half = fewest_between(without(joined, (part,)), start, end)
    return tuple([(name, -1 if tail in half else 1) for name, tail, _ in only(joined, between)])


def sum_for(wiring, what, known, part):
    """A SUM over as few parts of known as can be that the number at the part is; None if it is not settled."""
    check_parts(wiring, [*known, part])
    if part in always_zero(wiring, what):
        return ()
    if part in known:
        return ((part, 1),)
    if part not in settled(wiring, what, known):
        return None
    return known_row(wiring, known, part) if what == "voltage" else known_cut(wiring, known, part)


def is_sum_of_parts(wiring, thing):
    """Whether thing is a SUM over parts of the wiring."""
    if type(thing) is not tuple or not all([is_sum_item(wiring, item) for item in thing]):
        return False
    return is_ascending([item[0] for item in thing])


def is_sum_item(wiring, thing):
    """Whether thing is a pair (part, 1) or (part, -1)."""
    if type(thing) is not tuple or len(thing) != 2 or not is_number(thing[1]):
        return False
    return thing[0] in parts(wiring) and thing[1] in (1, -1)


def is_sum(wiring, what, part, thing):
    """Whether thing is a SUM that the number at the part always is."""
    check_parts(wiring, (part,))
    if not is_sum_of_parts(wiring, thing):
        return False
    signs = dict(thing)
    rest = [(1 if name == part else 0) - signs.get(name, 0) for name in parts(wiring)]
    # What is 0 with all voltages keeps the nodes; what is 0 with all currents are differences of heights.
    return first_leak(wiring, rest) is None if what == "voltage" else heights(wiring, rest) is not None


def written(signs):
    """The RING or CUT of the parts with 1 or -1 in the dict."""
    return oriented([(part, "along" if sign > 0 else "against") for part, sign in signs.items()])


def unsettled(wiring, what, known, part):
    """A RING (for voltages a CUT) that has the part and none of known; None if known settles the part."""
    check_parts(wiring, [*known, part])
    table = sums(wiring, what, known)
    free = [base for base in table[part] if base not in known]
    if free == []:
        return None
    # The number at one free part alone is changed: the parts that change with it are a RING or a CUT.
    return written({name: row[free[0]] for name, row in table.items() if free[0] in row})


def equal(wiring, what, part, other):
    """1 if the numbers at both are always the same, -1 if so but for the sign, otherwise None."""
    check_parts(wiring, (part, other))
    return likeness(sums(wiring, what, ()), part, other)


def mates(wiring, what):
    """The ascending list of the largest sets of parts that are equal, with either sign, and not always 0."""
    table = sums(wiring, what, ())
    found = []
    for part in [name for name in parts(wiring) if table[name] != {}]:
        alike_ones = tuple([name for name in parts(wiring) if likeness(table, part, name) is not None])
        if part == alike_ones[0] and len(alike_ones) > 1:
            found.append(alike_ones)
    return found


def least_meters(wiring, what):
    """The fewest parts that settle all parts."""
    return rank(wiring) if what == "voltage" else len(wiring) - rank(wiring)


def chosen(names, many):
    """The list of all sets of so many of names."""
    return list(combinations(names, many))


def meter_sets(wiring, what):
    """The ascending list of all sets of the fewest parts that settle all."""
    found = []
    for names in chosen(list(parts(wiring)), least_meters(wiring, what)):
        inner = only(wiring, names) if what == "voltage" else without(wiring, names)
        if len(forest(inner)) == len(inner):
            found.append(names)
    return found


def determinant(rows):
    """The determinant of whole numbers of which all that stands above and to the left has one above 0."""
    last = 1
    while rows:
        pivot = rows[0]
        # Each division by the last pivot leaves no rest.
        rows = [[(row[at] * pivot[0] - row[0] * pivot[at]) // last for at in range(1, len(row))] for row in rows[1:]]
        last = pivot[0]
    return last


def links(wiring, node, other):
    """How many parts hang at a node, or how many lead between two nodes, with the other sign."""
    pairs = [(start, end) for _, start, end in wiring if start != end]
    if node == other:
        return len([pair for pair in pairs if node in pair])
    return -len([pair for pair in pairs if node in pair and other in pair])


def many_meter_sets(wiring):
    """How many sets meter_sets tells."""
    # The matrix-tree theorem of Kirchhoff: one node of each group is left out.
    left_out = [group[0] for group in groups(wiring)]
    inner = left_of(nodes(wiring), left_out)
    return determinant([[links(wiring, node, other) for other in inner] for node in inner])


def cheapest_meters(wiring, what, prices):
    """Of all sets in meter_sets the one with the least sum of prices, of several the least."""
    order = sorted([(price, at) for at, price in enumerate(prices)])
    if what == "current":
        # The dearest parts go without a meter, of equal ones the last, as long as there is no ring among them.
        order = list(reversed(order))
    taken = forest([wiring[at] for _, at in order])
    return tuple([part for part in parts(wiring) if (part in taken) == (what == "voltage")])


def rings_of_known(wiring, known):
    """For each part of known the set of those of known on a ring that has it and as few of them as can be."""
    joined = bridged(wiring, left_of(parts(wiring), known))
    found = []
    for part, start, end in joined:
        row = rows_from(without(joined, (part,)), end).get(start)
        if row is not None:
            found.append(tuple(sorted([part] + [name for name, _ in row])))
    return found


def cuts_of_known(wiring, known):
    """For each part between two nodes the fewest of known without which its ends are not connected by known."""
    inner = only(wiring, known)
    return [fewest_between(inner, start, end)[0] for _, start, end in wiring if start != end]


def blinding(wiring, what, known):
    """As few parts of known as can be without which the rest does not settle all parts."""
    check_parts(wiring, known)
    if settles_all(wiring, what, ()):
        return None
    if not settles_all(wiring, what, known):
        return ()
    found = cuts_of_known(wiring, known) if what == "voltage" else rings_of_known(wiring, known)
    return min(found, key=len)


def spare(wiring, what, known):
    """How many parts of known, whichever they are, can be taken out of it so that it still settles all."""
    found = blinding(wiring, what, known)
    return None if found is None else len(found) - 1


def filled(table, given):
    """For each part the number at it, if base parts have the given numbers, the others of them 0."""
    return {part: sum([given.get(base, 0) * sign for base, sign in row.items()]) for part, row in table.items()}


def completed(wiring, what, known, amounts):
    """Whole numbers for all parts with these amounts at known; None if there are none."""
    if contradiction(wiring, what, known, amounts) is not None:
        return None
    numbers = filled(sums(wiring, what, known), dict(zip(known, amounts)))
    return tuple([numbers[part] for part in parts(wiring)])


def contradiction(wiring, what, known, amounts):
    """A CUT (for voltages a RING) of parts of known whose amounts do not add up; None if there is none."""
    check_parts(wiring, known)
    table = sums(wiring, what, known)
    given = dict(zip(known, amounts))
    numbers = filled(table, given)
    for part in known:
        if numbers[part] != given[part]:
            signs = {base: -sign for base, sign in table[part].items()}
            signs[part] = 1
            return written(signs)
    return None


def possible(wiring, what, known, amounts):
    """Whether currents (voltages) have these amounts at known."""
    return contradiction(wiring, what, known, amounts) is None


def suspects(wiring, what, known, amounts):
    """The set of the parts of known without which the amounts at the others are possible."""
    check_parts(wiring, known)
    given = dict(zip(known, amounts))
    found = []
    for part in known:
        others = left_of(known, (part,))
        if possible(wiring, what, others, [given[name] for name in others]):
            found.append(part)
    return tuple(found)


def shows_one_wrong(wiring, what, known):
    """Whether each part of known is settled by the others."""
    check_parts(wiring, known)
    return all([part in settled(wiring, what, left_of(known, (part,))) for part in known])


def names_one_wrong(wiring, what, known):
    """Whether each part of known is settled by the others, also without any one of these."""
    check_parts(wiring, known)
    pairs = [(part, other) for part in known for other in known]
    return all([part in settled(wiring, what, left_of(known, pair)) for pair in pairs for part in pair])
