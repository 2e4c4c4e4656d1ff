"""Rings and cuts of wirings, currents that keep the nodes, and heights."""

from sameloops.errors import Leak, NoFit, NoPart
from sameloops.wirings import blocks, check_parts, forest, forest_row, groups, is_ascending, is_number, nodes
from sameloops.wirings import only, parts, rows_from, steps_at, without

OTHER_WAY = {"along": "against", "against": "along"}


def oriented(pairs):
    """The pairs (part, way), ascending, with all ways exchanged if the first one is against."""
    pairs = sorted(pairs)
    if pairs[0][1] == "against":
        pairs = [(part, OTHER_WAY[way]) for part, way in pairs]
    return tuple(pairs)


def simple_rows(wiring, origin, goal):
    """The list of all rows of parts from origin to goal that meet no node twice."""
    steps = steps_at(wiring)
    found = []
    waiting = [(origin, (), (origin,))]
    while waiting:
        here, row, met = waiting.pop()
        if here == goal:
            found.append(row)
        else:
            for part, way, there in steps.get(here, []):
                if there not in met:
                    waiting.append((there, row + ((part, way),), met + (there,)))
    return found


def rings(wiring):
    """The ascending list of all RINGs."""
    found = []
    for at, (part, start, end) in enumerate(wiring):
        # Only later parts: so each ring is found once, from its least part, which is gone along.
        for row in simple_rows(wiring[at + 1:], end, start):
            found.append(oriented([(part, "along"), *row]))
    return sorted(found)


def touching(wiring, inside):
    """The nodes beside those inside that a part joins to one of them, ascending."""
    crossing = [(start, end) for _, start, end in wiring if (start in inside) != (end in inside)]
    return sorted({end if start in inside else start for start, end in crossing})


def joined_beyond(wiring, inside, outside):
    """Whether rows of parts that meet no node inside connect all nodes outside."""
    if outside == ():
        return True
    beyond = [item for item in wiring if item[1] not in inside and item[2] not in inside]
    rows = rows_from(beyond, outside[0])
    return all([node in rows for node in outside])


def halves(wiring):
    """For each way in which a WIRING of one group falls in two halves the half with the least node."""
    found = []
    waiting = [(nodes(wiring)[:1], ())]
    while waiting:
        inside, outside = waiting.pop()
        # What is outside must hang together in the end: where it cannot, no half lies ahead.
        if joined_beyond(wiring, inside, outside):
            near = [node for node in touching(wiring, inside) if node not in outside]
            if near:
                waiting.append((inside + (near[0],), outside))
                waiting.append((inside, outside + (near[0],)))
            elif outside:
                found.append(inside)
    return found


def cut_around(wiring, half):
    """The parts with one end in half and one elsewhere, written as a CUT."""
    crossing = [(part, start in half) for part, start, end in wiring if (start in half) != (end in half)]
    return oriented([(part, "along" if leaves else "against") for part, leaves in crossing])


def cuts(wiring):
    """The ascending list of all CUTs."""
    found = []
    for block in blocks(wiring):
        inner = only(wiring, block)
        found.extend([cut_around(inner, half) for half in halves(inner)])
    return sorted(found)


def is_signed(wiring, thing):
    """Whether thing is an ascending tuple of pairs (part, way) of the wiring, the first one along."""
    if type(thing) is not tuple or not all([is_signed_part(wiring, item) for item in thing]):
        return False
    return thing != () and thing[0][1] == "along" and is_ascending([item[0] for item in thing])


def is_signed_part(wiring, thing):
    """Whether thing is a pair (part, way) of the wiring."""
    if type(thing) is not tuple or len(thing) != 2:
        return False
    return thing[0] in parts(wiring) and thing[1] in ("along", "against")


def gone(wiring, pairs):
    """For each pair (part, way) the pair of the nodes from which and to which it leads."""
    ends = {part: (start, end) for part, start, end in wiring}
    return [ends[part] if way == "along" else (ends[part][1], ends[part][0]) for part, way in pairs]


def is_ring(wiring, thing):
    """Whether thing is a RING of the wiring."""
    if not is_signed(wiring, thing):
        return False
    onward = dict(gone(wiring, thing))
    met = []
    here = gone(wiring, thing)[0][0]
    while here in onward and here not in met:
        met.append(here)
        here = onward[here]
    # Two parts that lead from one node stand in onward once, so then fewer nodes than parts are met.
    return here == met[0] and len(met) == len(thing)


def is_cut(wiring, thing):
    """Whether thing is a CUT of the wiring."""
    if not is_signed(wiring, thing):
        return False
    steps = gone(wiring, thing)
    rest = without(wiring, [part for part, _ in thing])
    tails = rows_from(rest, steps[0][0])
    heads = rows_from(rest, steps[0][1])
    # Both halves hang together without the parts and all parts lead from the one to the other,
    # so no other part joins the halves.
    return steps[0][1] not in tails and all([tail in tails and head in heads for tail, head in steps])


def ring_over(wiring, part):
    """The RING of this part and parts of the forest alone; None for a part of the forest."""
    check_parts(wiring, (part,))
    if part in forest(wiring):
        return None
    _, start, end = only(wiring, (part,))[0]
    return oriented([(part, "along"), *forest_row(wiring, end, start)])


def cut_over(wiring, part):
    """The CUT of this part and parts outside of the forest alone; None for a part outside of it."""
    check_parts(wiring, (part,))
    taken = forest(wiring)
    if part not in taken:
        return None
    start = only(wiring, (part,))[0][1]
    half = rows_from(only(wiring, [name for name in taken if name != part]), start)
    return cut_around(wiring, half)


def ring_table(wiring):
    """The tuple of the RINGs over the parts outside of the forest, in order."""
    return tuple([ring_over(wiring, item[0]) for item in without(wiring, forest(wiring))])


def shortest_with(found, names):
    """The first of the shortest tuples of pairs (part, way) that have all names; None if none has."""
    fitting = [pairs for pairs in found if all([name in dict(pairs) for name in names])]
    return min(fitting, key=len, default=None)


def ring_through(wiring, part, other):
    """A RING with both parts and as few parts as can be; None if there is none."""
    check_parts(wiring, (part, other))
    return shortest_with(rings(wiring), (part, other))


def cut_through(wiring, part, other):
    """A CUT with both parts and as few parts as can be; None if there is none."""
    check_parts(wiring, (part, other))
    return shortest_with(cuts(wiring), (part, other))


def first_leak(wiring, amounts):
    """The least node at which the amounts do not add up; None if there is none."""
    for node in nodes(wiring):
        comes = sum([amount for item, amount in zip(wiring, amounts) if item[2] == node])
        goes = sum([amount for item, amount in zip(wiring, amounts) if item[1] == node])
        if comes != goes:
            return node
    return None


def flowing_ring(wiring, left):
    """Pairs (part, way) of a ring that is gone in the direction of the numbers left, a dict by part."""
    onward = {}
    for part, start, end in wiring:
        if left.get(part, 0) > 0:
            onward[start] = (part, "along", end)
        elif left.get(part, 0) < 0:
            onward[end] = (part, "against", start)
    here = min(list(onward))
    met = []
    # The numbers keep the nodes: where one comes in, one goes out, so the row comes back to a node.
    while here not in met:
        met.append(here)
        here = onward[here][2]
    return [onward[node][:2] for node in met[met.index(here):]]


def taken_off(left, row, many):
    """The numbers, a dict by part, when many is gone off along the row; parts with 0 are left out."""
    change = {part: many if way == "along" else -many for part, way in row}
    rest = {part: amount - change.get(part, 0) for part, amount in left.items()}
    return {part: amount for part, amount in rest.items() if amount != 0}


class Stream:
    """Numbers on the parts of a WIRING that keep its nodes."""

    def __init__(self, wiring, amounts):
        node = first_leak(wiring, amounts)
        if node is not None:
            raise Leak(node)
        self._wiring = tuple([tuple(item) for item in wiring])
        self._amounts = tuple(amounts)

    def amounts(self):
        """The tuple of the numbers."""
        return self._amounts

    def at(self, part):
        """The number of the part."""
        for item, amount in zip(self._wiring, self._amounts):
            if item[0] == part:
                return amount
        raise NoPart(part)

    def split(self):
        """Pairs (RING, many) that add up to the stream, nowhere in opposite directions."""
        left = {item[0]: amount for item, amount in zip(self._wiring, self._amounts) if amount != 0}
        found = []
        while left:
            row = flowing_ring(self._wiring, left)
            # The least number comes to 0, so no ring is found twice and there are no more than parts.
            many = min([abs(left[part]) for part, _ in row])
            left = taken_off(left, row, many)
            ring = oriented(row)
            found.append((ring, many if ring[0] in row else -many))
        return found

    def __add__(self, other):
        if not isinstance(other, Stream):
            return NotImplemented
        if self._wiring != other._wiring:
            raise NoFit()
        return Stream(self._wiring, [mine + its for mine, its in zip(self._amounts, other._amounts)])

    def __sub__(self, other):
        if not isinstance(other, Stream):
            return NotImplemented
        return self + -other

    def __neg__(self):
        return Stream(self._wiring, [-amount for amount in self._amounts])

    def __mul__(self, other):
        return Stream(self._wiring, [amount * other for amount in self._amounts])

    def __len__(self):
        return len([amount for amount in self._amounts if amount != 0])

    def __eq__(self, other):
        if not isinstance(other, Stream):
            return False
        return self._wiring == other._wiring and self._amounts == other._amounts


def is_row_of_numbers(wiring, thing):
    """Whether thing is a tuple of numbers, one for each part."""
    return type(thing) is tuple and len(thing) == len(wiring) and all([is_number(amount) for amount in thing])


def is_stream(wiring, thing):
    """Whether thing is a tuple of numbers that a Stream can have."""
    return is_row_of_numbers(wiring, thing) and first_leak(wiring, thing) is None


def is_drops(wiring, thing):
    """Whether thing is a tuple of numbers, one for each part, that are differences of heights."""
    return is_row_of_numbers(wiring, thing) and heights(wiring, thing) is not None


def heights(wiring, drops):
    """Whole heights of the nodes, in order, with these differences; None if there are none."""
    drop = {item[0]: amount for item, amount in zip(wiring, drops)}
    height = {}
    for group in groups(wiring):
        for node, row in rows_from(wiring, group[0]).items():
            height[node] = sum([-drop[part] if way == "along" else drop[part] for part, way in row])
    if any([height[start] - height[end] != drop[part] for part, start, end in wiring]):
        return None
    return tuple([height[node] for node in nodes(wiring)])
