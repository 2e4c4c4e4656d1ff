"""Cells of blocks, parts in a row or side by side, and all drawings of alike wirings, counted and numbered."""

from math import factorial

from sameloops.cells import arrangement, cells_in, strong_sides
from sameloops.errors import NoDrawing
from sameloops.sums import likeness, sums
from sameloops.turns import arranging, turned_all
from sameloops.wirings import blocks, check_parts, nodes, only, parts, rank


def rank_of(wiring, names):
    """The greatest number of parts in names among which there is no RING."""
    check_parts(wiring, names)
    return rank(only(wiring, names))


def block_of(wiring, part):
    """The WIRING of the parts of the block of this part."""
    check_parts(wiring, (part,))
    return only(wiring, [names for names in blocks(wiring) if part in names][0])


def strong(wiring, part):
    """The ascending list of the strong partings of the block of this part, each told by a side."""
    return strong_sides(block_of(wiring, part))


def cells_of(wiring, part):
    """The ascending list of the cells of the block of this part, each a pair (kind, its sets of parts)."""
    return cells_in(block_of(wiring, part))


def mates_of(wiring, what, part):
    """The set of the pairs (mate, way) of parts with the same number as this part, with either sign."""
    check_parts(wiring, (part,))
    table = sums(wiring, what, ())
    if table[part] == {}:
        return ()
    likes = [(mate, likeness(table, part, mate)) for mate in parts(wiring)]
    return tuple([(mate, "along" if sign == 1 else "against") for mate, sign in likes if sign is not None])


def chain_mates(wiring, part):
    """The set of the pairs (mate, way) of parts whose current is always that of this part, with either sign."""
    return mates_of(wiring, "current", part)


def bundle_mates(wiring, part):
    """The set of the pairs (mate, way) of parts whose voltage is always that of this part, with either sign."""
    return mates_of(wiring, "voltage", part)


def ways(cell):
    """How many arrangements the cell has."""
    kind, members = cell
    if kind == "chain":
        return factorial(len(members) - 1)
    return 2 if kind == "rigid" else 1


def product_of(numbers):
    """The numbers multiplied."""
    told = 1
    for number in numbers:
        told = told * number
    return told


def drawings_of(block):
    """How many drawings a WIRING of one block has."""
    return product_of([ways(cell) for cell in cells_in(block)])


def drawings(wiring, part):
    """How many WIRINGs of the parts of the block of this part are alike to it, but for those drawn alike."""
    return drawings_of(block_of(wiring, part))


def how_many(wiring):
    """How many WIRINGs with one group are alike to this one, but for the names of nodes."""
    inner = [only(wiring, names) for names in blocks(wiring)]
    if len(inner) < 2:
        return product_of([drawings_of(block) for block in inner])
    sizes = [len(nodes(block)) for block in inner]
    joined = sum(sizes) - len(inner) + 1
    many = product_of([drawings_of(block) * size for block, size in zip(inner, sizes)])
    return many * product_of([joined for _ in range(len(inner) - 2)])


def order_number(members, row):
    """The number of this order of the members of a chain behind the first one."""
    left = list(members[1:])
    number = 0
    for member in row:
        number = number * len(left) + left.index(member)
        left.remove(member)
    return number


def order_numbered(members, number):
    """The order of the members of a chain behind the first one that has this number."""
    picks = []
    for many in range(1, len(members)):
        picks.append(number % many)
        number = number // many
    left = list(members[1:])
    row = []
    for pick in reversed(picks):
        row.append(left.pop(pick))
    return tuple(row)


def arrangement_number(block, cell):
    """The number of the arrangement of the cell, below its ways."""
    told = arrangement(block, cell)
    if cell[0] == "chain":
        return order_number(cell[1], told)
    return told if cell[0] == "rigid" else 0


def arrangement_numbered(cell, number):
    """The arrangement of the cell that has this number."""
    if cell[0] == "chain":
        return order_numbered(cell[1], number)
    return number if cell[0] == "rigid" else None


def plainly_named(wiring, word):
    """The WIRING with the word and 0, 1, .. as its nodes, in the order in which its parts name them."""
    names = {}
    for _, start, end in wiring:
        for node in (start, end):
            names.setdefault(node, word + str(len(names)))
    return tuple([(part, names[start], names[end]) for part, start, end in wiring])


def drawn(block, number, word):
    """The drawing of this number of a WIRING of one block, with the word in the names of its nodes."""
    pieces = []
    for cell in cells_in(block):
        pieces.extend(arranging(block, cell, arrangement_numbered(cell, number % ways(cell))))
        number = number // ways(cell)
    return plainly_named(turned_all(block, pieces), word)


def form(wiring):
    """A WIRING that is alike to this one, the same one for all that are alike to each other."""
    found = []
    for at, names in enumerate(blocks(wiring)):
        found.extend(drawn(only(wiring, names), 0, "n" + str(at) + "."))
    return tuple(sorted(found))


def drawing(wiring, part, number):
    """The drawing of this number of the block of this part, the same one for all alike WIRINGs."""
    block = block_of(wiring, part)
    if number < 0 or number >= drawings_of(block):
        raise NoDrawing(number)
    return drawn(block, number, "n")


def number_of(wiring, part):
    """The number whose drawing is drawn alike with the block of this part."""
    block = block_of(wiring, part)
    told = 0
    # The first cell has the least weight, as in drawn.
    for cell in reversed(cells_in(block)):
        told = told * ways(cell) + arrangement_number(block, cell)
    return told
