"""What two nodes divide a block into: classes, the sides of strong partings, cells and how they are drawn.

A block is here the WIRING of its parts alone.
"""

from sameloops.rings import gone, ring_table
from sameloops.wirings import blocks, gathered, merged, nodes, only, parts, without


def shared(wiring, names):
    """The set of the nodes that parts in names have in common with the other parts."""
    theirs = nodes(without(wiring, names))
    return tuple([node for node in nodes(only(wiring, names)) if node in theirs])


def classes(block, ends):
    """The ascending list of the classes into which the nodes in ends divide the parts."""
    pairs = []
    for node in nodes(block):
        if node not in ends:
            meeting = [part for part, start, end in block if node in (start, end)]
            pairs.extend([(meeting[0], part) for part in meeting])
    return gathered(merged(parts(block), pairs))


def is_row(block, names):
    """Whether the parts in names, all that hang between two nodes, stand behind one another in pieces."""
    return len(blocks(only(block, names))) > 1


def strong_classes(block, ends):
    """The classes between the two nodes that are sides of strong partings."""
    found = classes(block, ends)
    wide = [names for names in found if len(names) > 1]
    if len(found) > 2:
        return wide
    # Of two classes: a parting crosses theirs exactly if it divides both of them, each between its pieces.
    if len(wide) < 2 or all([is_row(block, names) for names in wide]):
        return []
    return wide


def strong_sides(block):
    """The ascending list of the strong partings, each told by its side without the least part."""
    found = []
    for at, node in enumerate(nodes(block)):
        for other in nodes(block)[at + 1:]:
            found.extend(strong_classes(block, (node, other)))
    least = parts(block)[:1]
    return sorted({parts(without(block, side)) if side[:1] == least else side for side in found})


def lies_in(names, others):
    """Whether all of names are in others."""
    return all([name in others for name in names])


def members_within(block, sides, outer):
    """The sets of parts, sides and single parts, into which one cell divides the block.

    It is the cell within outer, a side or all parts, and beside the largest of the sides that lie in outer.
    """
    inner = [side for side in sides if side != outer and lies_in(side, outer)]
    members = [side for side in inner if not any([side != wide and lies_in(side, wide) for wide in inner])]
    singles = [(part,) for part in outer if not any([part in side for side in members])]
    rest = parts(without(block, outer))
    return tuple(sorted(members + singles + ([rest] if rest else [])))


def kind_of(block, members):
    """The kind of the cell with these members."""
    many = len({node for member in members for node in shared(block, member)})
    if many == 2:
        return "bundle"
    return "chain" if many == len(members) else "rigid"


def cells_in(block):
    """The ascending list of the cells, each a pair (kind, members); the least part is in the first member."""
    if len(block) < 2:
        return []
    sides = strong_sides(block)
    rows = [members_within(block, sides, outer) for outer in [parts(block), *sides]]
    return sorted([(kind_of(block, members), members) for members in rows])


def guide(block, member):
    """A RING that has parts of the member and others, the same one in all alike blocks."""
    for ring in ring_table(block):
        inside = [part for part, _ in ring if part in member]
        if inside and len(inside) < len(ring):
            return ring
    return None


def passage(block, ring, member):
    """The nodes at which the ring comes into the member and goes out of it."""
    steps = gone(block, [(part, way) for part, way in ring if part in member])
    tails = [tail for tail, _ in steps]
    heads = [head for _, head in steps]
    comes = [tail for tail in tails if tail not in heads]
    goes = [head for head in heads if head not in tails]
    return comes[0], goes[0]


def order_in(block, members):
    """The members of a chain behind the first one, in the order in which the guide comes to them."""
    ring = guide(block, members[0])
    onward = {}
    for member in members:
        comes, goes = passage(block, ring, member)
        onward[comes] = (member, goes)
    here = passage(block, ring, members[0])[1]
    row = []
    while len(row) < len(members) - 1:
        member, here = onward[here]
        row.append(member)
    return tuple(row)


def side_in(block, members):
    """0 or 1, the number of the drawing of a rigid cell.

    It hangs on which of the two nodes of the first member has the lesser members: the one where the guide goes
    out of it or the one where it comes in.
    """
    comes, goes = passage(block, guide(block, members[0]), members[0])
    ahead = [member for member in members if comes in shared(block, member)]
    behind = [member for member in members if goes in shared(block, member)]
    return 0 if behind < ahead else 1


def arrangement(block, cell):
    """How the cell is drawn: the order of a chain, 0 or 1 for a rigid cell, None for a bundle.

    With the same arrangements of all cells alike blocks are the same but for the names of nodes.
    """
    kind, members = cell
    if kind == "chain":
        return order_in(block, members)
    return side_in(block, members) if kind == "rigid" else None
