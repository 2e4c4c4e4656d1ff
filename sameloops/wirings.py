"""Wirings: named parts of two ends each, joined at nodes."""

from sameloops.errors import NoNode, NoPart, OtherParts

LETTERS = "abcdefghijklmnopqrstuvwxyz"
SIGNS = "abcdefghijklmnopqrstuvwxyz0123456789."


def as_tuples(value):
    """The value with tuples for lists, at any depth."""
    return tuple([as_tuples(item) for item in value]) if isinstance(value, (list, tuple)) else value


def is_number(thing):
    """Whether thing is an int that is not a bool."""
    return type(thing) is int


def is_name(thing):
    """Whether thing is a NAME."""
    if type(thing) is not str or thing == "":
        return False
    return thing[0] in LETTERS and all([sign in SIGNS for sign in thing])


def is_ascending(names):
    """Whether each of names is below the one behind it."""
    return all([low < high for low, high in zip(names, names[1:])])


def is_part(thing):
    """Whether thing is a PART."""
    return type(thing) is tuple and len(thing) == 3 and all([is_name(word) for word in thing])


def is_wiring(thing):
    """Whether thing is a WIRING."""
    if type(thing) is not tuple or not all([is_part(item) for item in thing]):
        return False
    return is_ascending([item[0] for item in thing])


def nodes(wiring):
    """The set of the nodes that the parts name."""
    return tuple(sorted({node for _, start, end in wiring for node in (start, end)}))


def parts(wiring):
    """The set of the names of the parts."""
    return tuple([item[0] for item in wiring])


def merge(least, one, other):
    """Let all names that have the least name of one or of other have the lesser of both."""
    low, high = sorted([least[one], least[other]])
    for name in list(least):
        if least[name] == high:
            least[name] = low


def merged(names, pairs):
    """For each name the least one that pairs of names connect with it, as a dict."""
    least = {name: name for name in names}
    for one, other in pairs:
        merge(least, one, other)
    return least


def gathered(least):
    """The ascending list of the sets of names that have the same least name."""
    members = {}
    for name in sorted(least):
        members.setdefault(least[name], []).append(name)
    return sorted([tuple(names) for names in members.values()])


def groups(wiring):
    """The ascending list of the largest sets of nodes that parts connect."""
    return gathered(merged(nodes(wiring), [(start, end) for _, start, end in wiring]))


def rank(wiring):
    """The number of nodes less that of groups."""
    return len(nodes(wiring)) - len(groups(wiring))


def forest(wiring):
    """The set of the parts that are on no ring with parts of this set ahead of them."""
    least = {node: node for node in nodes(wiring)}
    taken = []
    for part, start, end in wiring:
        if least[start] != least[end]:
            taken.append(part)
            merge(least, start, end)
    return tuple(taken)


def only(wiring, names):
    """The WIRING of the parts in names alone."""
    return tuple([(part, start, end) for part, start, end in wiring if part in names])


def without(wiring, names):
    """The WIRING of the parts that are not in names."""
    return tuple([(part, start, end) for part, start, end in wiring if part not in names])


def steps_at(wiring):
    """For each node the steps that leave it: triples (part, way, node behind the part)."""
    steps = {node: [] for node in nodes(wiring)}
    for part, start, end in wiring:
        steps[start].append((part, "along", end))
        steps[end].append((part, "against", start))
    return steps


def rows_from(wiring, origin, barred=()):
    """For each node that can be reached from origin a row of as few parts as can be from there to it.

    A row is the tuple of its pairs (part, way), in the order in which they are gone; those barred are not.
    """
    steps = steps_at(wiring)
    rows = {origin: ()}
    waiting = [origin]
    while waiting:
        here = waiting.pop(0)
        for part, way, there in steps.get(here, []):
            if there not in rows and (part, way) not in barred:
                rows[there] = rows[here] + ((part, way),)
                waiting.append(there)
    return rows


def forest_row(wiring, origin, goal):
    """The row over parts of the forest that leads from origin to goal, a node of the same group."""
    return rows_from(only(wiring, forest(wiring)), origin)[goal]


def blocks(wiring):
    """The ascending list of the largest sets of parts of which any two are on a ring together."""
    taken = forest(wiring)
    pairs = []
    # The rings that single parts close with the forest are enough: they connect all parts of a block.
    for part, start, end in without(wiring, taken):
        pairs.extend([(part, passed) for passed, _ in forest_row(wiring, start, end)])
    return gathered(merged(parts(wiring), pairs))


def check_parts(wiring, names):
    """Raise NoPart for the first of names that is no part."""
    known = parts(wiring)
    for name in names:
        if name not in known:
            raise NoPart(name)


def check_nodes(wiring, names):
    """Raise NoNode for the first of names that is no node."""
    known = nodes(wiring)
    for name in names:
        if name not in known:
            raise NoNode(name)


def check_same_parts(one, other):
    """Raise OtherParts for the least part that only one of the two WIRINGs has."""
    unlike = sorted(set(parts(one)) ^ set(parts(other)))
    if unlike:
        raise OtherParts(unlike[0])


def renamed(wiring, least):
    """The WIRING in which each node has the name that least gives it."""
    return tuple([(part, least[start], least[end]) for part, start, end in wiring])


def opened(wiring, names):
    """The WIRING without the parts in names."""
    check_parts(wiring, names)
    return without(wiring, names)


def bridged(wiring, names):
    """The WIRING in which each part in names is gone and its two ends are one node."""
    check_parts(wiring, names)
    least = merged(nodes(wiring), [(start, end) for _, start, end in only(wiring, names)])
    return renamed(without(wiring, names), least)


def reversed_parts(wiring, names):
    """The WIRING in which start and end of the parts in names are exchanged."""
    check_parts(wiring, names)
    return tuple([(part, end, start) if part in names else (part, start, end) for part, start, end in wiring])


def joined_nodes(wiring, node, other):
    """The WIRING in which the two nodes are one, with the lesser of both names."""
    check_nodes(wiring, (node, other))
    return renamed(wiring, merged(nodes(wiring), [(node, other)]))


def same_drawing(wiring, other):
    """Whether the two WIRINGs are the same but for the names of nodes."""
    if parts(wiring) != parts(other):
        return False
    pairs = []
    for mine, its in zip(wiring, other):
        pairs.extend([(mine[1], its[1]), (mine[2], its[2])])
    # No node has two partners exactly if there are no more pairs than nodes, on either side.
    return len(set(pairs)) == len(nodes(wiring)) == len(nodes(other))
