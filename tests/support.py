"""Wirings for the tests, and slow answers that follow the words of the document one by one."""

from itertools import combinations, product

HOUSE = (("a", "n", "m"), ("b", "m", "k"), ("c", "k", "n"), ("d", "m", "m"), ("e", "k", "x"), ("f", "n", "k"))
SQUARE = (("a", "p", "q"), ("b", "q", "r"), ("c", "p", "r"), ("d", "p", "r"))
GATE = (("a", "p", "q"), ("b", "p", "r"), ("c", "q", "r"), ("d", "q", "s"), ("e", "r", "s"), ("f", "p", "s"))
LOOSE = (("a", "p", "q"), ("b", "q", "r"), ("c", "r", "s"))
GROUPS = (("a", "z", "y"), ("b", "y", "z"), ("c", "k", "l"), ("d", "q", "q"), ("e", "l", "m"))
EIGHT = (("a", "k", "l"), ("b", "l", "m"), ("c", "m", "k"), ("d", "m", "o"), ("e", "p", "o"), ("f", "p", "m"))
SAME_NAMES = (("a", "b", "a"), ("b", "a", "c"), ("c", "c", "b"), ("d", "d", "a"))
POINTED = (("a.1", "k.", "k.x"), ("a.10", "k.x", "k"), ("a.2", "k", "k."), ("a1", "k", "k0"))
SIDE_BY_SIDE = tuple([(name, "u", "v") for name in "abcd"])
ROUND = tuple([(name, name + "0", other + "0") for name, other in zip("abcdefg", "bcdefga")])
FIVE = tuple([(one + other, one, other) for one in "klmno" for other in "klmno" if one < other])
# The wirings that stand in section 5, and one that is drawn like SQUARE with its pair turned.
ONE = (("a", "k", "l"), ("b", "l", "m"), ("c", "m", "n"), ("d", "n", "k"), ("e", "l", "m"))
OTHER = (("a", "k", "l"), ("b", "m", "n"), ("c", "l", "m"), ("d", "n", "k"), ("e", "m", "n"))
THIRD = (("a", "k", "l"), ("b", "m", "n"), ("c", "l", "m"), ("d", "n", "k"), ("e", "l", "m"))
TURNED_SQUARE = (("a", "x", "y"), ("b", "z", "x"), ("c", "z", "y"), ("d", "z", "y"))
LOOP = (("a", "n", "m"), ("b", "m", "k"), ("c", "k", "n"))
# A gate with a pair and a row in the place of d, and a row with a pair in the place of f.
NESTED = (("a", "p", "q"), ("b", "p", "r"), ("c", "q", "r"), ("d1", "q", "s"), ("d2", "q", "v"), ("d3", "s", "v"),
          ("e", "r", "s"), ("f1", "p", "t"), ("f2", "t", "u"), ("f3", "u", "t"), ("f4", "s", "u"))
# A gate in the place of a part of a gate.
GATES = (("a", "p", "q"), ("b", "p", "r"), ("c", "q", "r"), ("d", "q", "s"), ("e", "r", "s"),
         ("f", "p", "t"), ("g", "p", "u"), ("h", "t", "u"), ("i", "t", "s"), ("j", "u", "s"))
# A gate with a row of two parts in the place of f.
ROW_IN_GATE = GATE[:5] + (("f", "p", "t"), ("g", "s", "t"))
WHEEL = (("a", "h", "k"), ("b", "h", "l"), ("c", "m", "h"), ("d", "h", "n"), ("e", "k", "l"), ("f", "l", "m"),
         ("g", "n", "m"), ("i", "n", "k"))
WIRINGS = ((), HOUSE, SQUARE, GATE, LOOSE, GROUPS, EIGHT, SAME_NAMES, POINTED, SIDE_BY_SIDE, ROUND,
           (("a", "k", "k"),), (("a", "k", "k"), ("b", "k", "k")), (("a", "k", "l"),))

# The labels of nodes are not in the order in which the parts name them.
LABELS = ("m", "c", "x", "a", "q", "b", "z", "k", "d", "e")


def growing(many):
    """All rows of labels 0, 1, .. of which each is at most one above all ahead of it."""
    rows = [()]
    for _ in range(many):
        rows = [row + (label,) for row in rows for label in range(max(row, default=-1) + 2)]
    return rows


def all_wirings(many):
    """All wirings of so many parts, of those that are the same but for the names of nodes one each."""
    return [tuple([("abcde"[at], LABELS[row[2 * at]], LABELS[row[2 * at + 1]]) for at in range(many)])
            for row in growing(2 * many)]


def small_wirings():
    """All wirings of at most three parts, some of four and of five."""
    return [*all_wirings(0), *all_wirings(1), *all_wirings(2), *all_wirings(3), *all_wirings(4)[::7],
            *all_wirings(5)[::511]]


def node_names(wiring):
    return sorted({node for item in wiring for node in item[1:]})


def keeps_nodes(wiring, amounts):
    """Whether the numbers add up at each node."""
    balance = dict.fromkeys(node_names(wiring), 0)
    for (_, start, end), amount in zip(wiring, amounts):
        balance[start] -= amount
        balance[end] += amount
    return not any(balance.values())


def written(wiring, signs):
    """Numbers 1, -1 and 0 on the parts, written as a RING or a CUT."""
    words = {1: "along", -1: "against"}
    return tuple([(item[0], words[sign]) for item, sign in zip(wiring, signs) if sign])


def least_rows(wiring, rows):
    """The rows of 1, -1, 0 whose parts contain those of no other row, the first sign 1, written."""
    rows = {row for row in rows if any(row) and [sign for sign in row if sign][0] == 1}
    supports = {frozenset([at for at, sign in enumerate(row) if sign]) for row in rows}
    found = [row for row in rows
             if not any(support < {at for at, sign in enumerate(row) if sign} for support in supports)]
    return sorted([written(wiring, row) for row in found])


def slow_rings(wiring):
    """The RINGs as the smallest rows of 1, -1, 0 that keep the nodes."""
    return least_rows(wiring, [row for row in product((0, 1, -1), repeat=len(wiring)) if keeps_nodes(wiring, row)])


def slow_cuts(wiring):
    """The CUTs as the smallest rows of differences of heights 0 and 1."""
    names = node_names(wiring)
    rows = []
    for chosen in product((0, 1), repeat=len(names)):
        height = dict(zip(names, chosen))
        rows.append(tuple([height[start] - height[end] for _, start, end in wiring]))
    return least_rows(wiring, rows)


def plain(wiring):
    """The wiring with 0, 1, .. as its nodes, in the order in which the parts name them."""
    names = {}
    return tuple([(part, names.setdefault(start, len(names)), names.setdefault(end, len(names)))
                  for part, start, end in wiring])


def subsets(names):
    """All sets of names."""
    return [chosen for many in range(len(names) + 1) for chosen in combinations(names, many)]


def families(many):
    """All wirings of so many parts, those with the same RINGs together."""
    found = {}
    for wiring in all_wirings(many):
        found.setdefault(tuple(slow_rings(wiring)), []).append(wiring)
    return list(found.values())


def scattered(many, among, seed):
    """A wiring of so many parts whose nodes, so many at most, are scattered without an order."""
    numbers = [seed]
    while len(numbers) <= 2 * many:
        numbers.append((numbers[-1] * 1103515245 + 12345) % 2 ** 31)
    nodes = ["k" + str((number >> 16) % among) for number in numbers[1:]]
    return tuple([("p" + str(at).zfill(2), nodes[2 * at], nodes[2 * at + 1]) for at in range(many)])


def deep(thing):
    """The thing in eleven tuples, one in another."""
    for _ in range(11):
        thing = (thing,)
    return thing


def listed(thing):
    """The thing with lists for tuples, at any depth."""
    return [listed(item) for item in thing] if isinstance(thing, (tuple, list)) else thing


def one_listed(thing):
    """All ways in which just one tuple in the thing, or the thing itself, is a list."""
    if not isinstance(thing, tuple):
        return []
    inner = [thing[:at] + (told,) + thing[at + 1:] for at, item in enumerate(thing) for told in one_listed(item)]
    return [list(thing)] + inner


def one_left(thing):
    """All ways in which just one tuple in the thing, or the thing itself, is no list but all others are."""
    if not isinstance(thing, tuple):
        return []
    lists = listed(thing)
    inner = [lists[:at] + [told] + lists[at + 1:] for at, item in enumerate(thing) for told in one_left(item)]
    return [tuple(lists)] + inner


def half_listed(thing):
    """Some ways in which lists stand for tuples in the thing: one, all, all but one."""
    return one_listed(thing) + one_left(thing) + [listed(thing)]


def holds_list(thing):
    """Whether a list stands in it, at any depth."""
    return isinstance(thing, list) or isinstance(thing, tuple) and any(holds_list(item) for item in thing)
