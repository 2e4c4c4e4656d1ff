"""Turns: pieces that hang on the rest of their block at two nodes are turned about."""

from sameloops.alike import alike
from sameloops.cells import arrangement, cells_in, classes, shared
from sameloops.errors import NoPiece
from sameloops.wirings import blocks, check_nodes, check_parts, check_same_parts, is_ascending, nodes, only, parts
from sameloops.wirings import same_drawing, without


def classes_at(wiring, node, other):
    """The ascending list of the classes into which the two nodes divide the block that has both."""
    check_nodes(wiring, (node, other))
    for names in blocks(wiring):
        block = only(wiring, names)
        if node in nodes(block) and other in nodes(block):
            return classes(block, (node, other))
    return []


def common_nodes(wiring, piece):
    """The nodes that the piece has in common with the rest of its block; () if it is in no block."""
    for names in blocks(wiring):
        if all([part in names for part in piece]):
            return shared(only(wiring, names), piece)
    return ()


def doors(wiring, piece):
    """The set of the two doors of the piece."""
    check_parts(wiring, piece)
    found = common_nodes(wiring, piece)
    if len(found) != 2:
        raise NoPiece()
    return found


def is_piece(wiring, thing):
    """Whether thing is a piece."""
    if type(thing) is not tuple or not all([item in parts(wiring) for item in thing]) or not is_ascending(thing):
        return False
    return len(common_nodes(wiring, thing)) == 2


def turned(wiring, piece):
    """The WIRING behind the turn of the piece."""
    low, high = doors(wiring, piece)
    there = {low: high, high: low}
    return tuple([(part, there.get(end, end), there.get(start, start)) if part in piece else (part, start, end)
                  for part, start, end in wiring])


def turned_all(wiring, pieces):
    """The WIRING behind the turns of all pieces, one after another."""
    here = without(wiring, ())
    for piece in pieces:
        here = turned(here, piece)
    return here


def drawn_alike(one, other):
    """Whether both have the same blocks, each the same in both but for the names of nodes."""
    if blocks(one) != blocks(other):
        return False
    return all([same_drawing(only(one, names), only(other, names)) for names in blocks(one)])


def reversing(members):
    """Turns that reverse the order of members in a row and leave each one as it is drawn."""
    whole = tuple(sorted([part for member in members for part in member]))
    return [whole] + [member for member in members if len(member) > 1]


def ordering(row, wanted):
    """Turns that bring members of a chain from the one order to the other one."""
    row = list(row)
    pieces = []
    for at, member in enumerate(wanted):
        to = row.index(member) + 1
        if to > at + 1:
            pieces.extend(reversing(row[at:to]))
            row = row[:at] + list(reversed(row[at:to])) + row[to:]
    return pieces


def arranging(block, cell, wanted):
    """Turns that give the cell of the block this arrangement and leave all other cells as they are."""
    kind, members = cell
    now = arrangement(block, cell)
    if kind == "chain":
        return ordering(now, wanted)
    return [] if now == wanted else reversing(members[1:])


def turns_to(one, other):
    """Turns that lead from one to a WIRING that is drawn alike with other; None if they are not alike."""
    check_same_parts(one, other)
    if not alike(one, other):
        return None
    pieces = []
    for names in blocks(one):
        block, goal = only(one, names), only(other, names)
        for cell in cells_in(block):
            pieces.extend(arranging(block, cell, arrangement(goal, cell)))
    return tuple(pieces)


def are_turns(one, other, thing):
    """Whether thing is a tuple of pieces whose turns lead from one to a WIRING drawn alike with other."""
    check_same_parts(one, other)
    if type(thing) is not tuple:
        return False
    here = one
    for piece in thing:
        if not is_piece(here, piece):
            return False
        here = turned(here, piece)
    return drawn_alike(here, other)
