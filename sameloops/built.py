"""Wirings that are built from their rings or their cuts, told as sets of parts, with or without directions."""

from sameloops.alike import cut_table
from sameloops.rings import cuts, ring_table, rings
from sameloops.spaces import base_of, crossing, least_sets, places_in, set_number
from sameloops.wirings import gathered, merged, parts, reversed_parts


def narrowest(stars, once, twice):
    """Of the parts that stand in one star so far that with the fewest stars left for it: those stars."""
    rows = []
    for at in places_in(once):
        rows.append([star for star in stars if star >> at & 1 and star & twice == 0])
    return min(rows, key=len)


def chosen_stars(stars, whole, many):
    """So many of the stars that hang together such that each part of the whole stands in two; None if there are none.

    The next star is always chosen at a part that stands in one so far.
    """
    waiting = [((star,), star, 0) for star in stars if star & 1]
    while waiting:
        row, once, twice = waiting.pop()
        if once == 0:
            if twice == whole and len(row) == many:
                return row
        elif len(row) < many:
            for star in narrowest(stars, once, twice):
                waiting.append((row + (star,), once ^ star, twice | (once & star)))
    return None


def block_drawn(names, base, word):
    """A WIRING of one block of two parts or more whose cuts are sums of the base; None if there is none.

    The names of its nodes begin with the word. All parts that end at a node of a block are a cut: its star.
    """
    chosen = chosen_stars(least_sets(base), set_number(names, names), len(base) + 1)
    if chosen is None:
        return None
    found = []
    for at, name in enumerate(names):
        start, end = [word + str(number) for number, star in enumerate(chosen) if star >> at & 1]
        found.append((name, start, end))
    return tuple(found)


def linked(names, sets):
    """The sets of names that the given sets connect."""
    pairs = []
    for members in sets:
        pairs.extend([(members[0], name) for name in members])
    return gathered(merged(names, pairs))


def drawn_from(names, cut_base, word):
    """A WIRING of one block whose cuts are sums of the base; None if there is none."""
    if len(names) == 1:
        return ((names[0], word + "0", word + str(len(cut_base))),)
    return block_drawn(names, cut_base, word)


def rows_of(names, ring_base):
    """The parts that are on just the same rings, together: in a WIRING they can stand behind one another."""
    found = {}
    for at, name in enumerate(names):
        found.setdefault(tuple([number >> at & 1 for number in ring_base]), []).append(name)
    return list(found.values())


def stretched(wiring, rows, word):
    """The WIRING with all parts of each row behind one another in the place of the part that stands for it."""
    found = []
    for (_, start, end), row in zip(wiring, rows):
        here = start
        for name in row[:-1]:
            there = word + "m" + str(len(found))
            found.append((name, here, there))
            here = there
        found.append((row[len(row) - 1], here, end))
    return found


def built_block(names, sets, are_cuts, word):
    """A WIRING of one block, as built tells, whose nodes begin with the word; None if there is none."""
    base = base_of([set_number(names, members) for members in sets if members[0] in names])
    ring_base = crossing(base, len(names)) if are_cuts else base
    # The order of a row is free: with one part in its place there is much less to go through.
    rows = rows_of(names, ring_base)
    firsts = [row[0] for row in rows]
    numbers = [set_number(firsts, [names[at] for at in places_in(number)]) for number in ring_base]
    wiring = drawn_from(firsts, crossing(base_of(numbers), len(firsts)), word)
    return None if wiring is None else stretched(wiring, rows, word)


def built(names, sets, are_cuts):
    """A WIRING of these parts whose rings, or cuts, are the least sums of the given sets of parts.

    None if there is none. The sets connect all parts of each block.
    """
    found = []
    for at, block in enumerate(linked(names, sets)):
        wiring = built_block(block, sets, are_cuts, "n" + str(at) + ".")
        if wiring is None:
            return None
        found.extend(wiring)
    return tuple(sorted(found))


def ring_sets(wiring):
    """The ascending list of the sets of parts of the RINGs."""
    return sorted([parts(ring) for ring in rings(wiring)])


def built_from_sets(names, sets):
    """A WIRING of these parts whose rings have just the given sets of parts; None if there is none."""
    sets = sorted([tuple(members) for members in sets])
    if () in sets:
        return None
    told = built(names, sets, False)
    return told if told is not None and ring_sets(told) == sets else None


def turned_about_in(table, wanted):
    """Triples (part, other, unlike) for what is wanted in the place of the table: whether just one is turned about."""
    ways = {parts(pairs): dict(pairs) for pairs in wanted}
    found = []
    for pairs in table:
        # The first part is along in both.
        found.extend([(pairs[0][0], part, ways[parts(pairs)][part] != way) for part, way in pairs])
    return found


def to_turn(names, links):
    """Parts such that just one of part and other is among them exactly if a link (part, other, unlike) says so."""
    steps = {name: [] for name in names}
    for part, other, differs in links:
        steps[part].append((other, differs))
        steps[other].append((part, differs))
    told = {}
    for name in names:
        waiting = [(name, False)]
        while waiting:
            here, turn = waiting.pop()
            if here not in told:
                told[here] = turn
                waiting.extend([(there, turn != differs) for there, differs in steps[here]])
    return [name for name in names if told[name]]


def built_with(names, wanted, are_cuts, table, listing):
    """A WIRING of these parts of which listing tells just what is wanted; None if there is none.

    The table tells those of its RINGs, or CUTs, that connect all parts of each block.
    """
    wanted = sorted([tuple([tuple(pair) for pair in pairs]) for pairs in wanted])
    told = built(names, [parts(pairs) for pairs in wanted], are_cuts)
    if told is None or sorted([parts(pairs) for pairs in listing(told)]) != sorted([parts(pairs) for pairs in wanted]):
        return None
    told = reversed_parts(told, to_turn(names, turned_about_in(table(told), wanted)))
    return told if listing(told) == wanted else None


def built_from_rings(names, wanted):
    """A WIRING of these parts whose RINGs are just those wanted; None if there is none."""
    return built_with(names, wanted, False, ring_table, rings)


def built_from_cuts(names, wanted):
    """A WIRING of these parts whose CUTs are just those wanted; None if there is none."""
    return built_with(names, wanted, True, cut_table, cuts)


def built_counterpart(wiring):
    """A WIRING with the same parts whose CUTs are the RINGs of this one; None if there is none."""
    return built_from_cuts(parts(wiring), rings(wiring))
