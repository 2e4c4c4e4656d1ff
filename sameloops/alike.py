"""Alike wirings: no part can tell them from one another, or a ring and a cut tell them apart."""

from itertools import combinations

from sameloops.errors import NoRing
from sameloops.rings import cut_over, is_cut, is_ring, ring_table, rings
from sameloops.wirings import as_tuples, bridged, check_same_parts, forest, is_number, opened, parts


def alike(one, other):
    """Whether the two WIRINGs have the same parts and the same RINGs."""
    return parts(one) == parts(other) and ring_table(one) == ring_table(other)


def cut_table(wiring):
    """The list of the CUTs over the parts of the forest, in order."""
    return [cut_over(wiring, part) for part in forest(wiring)]


def differences(one, other, listing, belongs):
    """The pairs (number, thing) of what listing tells of the WIRING of this number, 0 or 1, and only of it.

    The tables of rings or of cuts are enough to find one: if both have all of both tables, they are alike.
    """
    pairs = [(0, thing) for thing in listing(one) if not belongs(other, thing)]
    return pairs + [(1, thing) for thing in listing(other) if not belongs(one, thing)]


def is_difference(one, other, thing, belongs):
    """Whether thing is a pair (number, what belongs to the WIRING of this number and not to the other one)."""
    if type(thing) is not tuple or len(thing) != 2 or not is_number(thing[0]) or thing[0] not in (0, 1):
        return False
    having, lacking = (one, other) if thing[0] == 0 else (other, one)
    return belongs(having, thing[1]) and not belongs(lacking, thing[1])


def unlike(one, other):
    """A pair (number, RING) of a RING that only the WIRING of this number has; None if they are alike."""
    check_same_parts(one, other)
    pairs = differences(one, other, ring_table, is_ring)
    return pairs[0] if pairs else None


def is_unlike(one, other, thing):
    """Whether thing is a pair that unlike may return."""
    check_same_parts(one, other)
    return is_difference(one, other, thing, is_ring)


def least_unlike(one, other):
    """Of all pairs that unlike may return the one whose RING has the fewest parts and then is the least."""
    check_same_parts(one, other)
    pairs = differences(one, other, rings, is_ring)
    return min(pairs, key=lambda pair: (len(pair[1]), pair[1]), default=None)


def unlike_cut(one, other):
    """A pair (number, CUT) of a CUT that only the WIRING of this number has; None if they are alike."""
    check_same_parts(one, other)
    pairs = differences(one, other, cut_table, is_cut)
    return pairs[0] if pairs else None


def is_unlike_cut(one, other, thing):
    """Whether thing is a pair that unlike_cut may return."""
    check_same_parts(one, other)
    return is_difference(one, other, thing, is_cut)


def test_of(wiring, ring):
    """The RULE ROW with a source at the least part of the RING, resistors at its others, nothing elsewhere."""
    # is_ring judges a thing, in which a list is no tuple; in this argument it may stand for one.
    ring = as_tuples(ring)
    if not is_ring(wiring, ring):
        raise NoRing()
    rules = {part: ("resistor", 1) for part, _ in ring}
    rules[ring[0][0]] = ("source", 1)
    return tuple([(part, rules.get(part, ("open",))) for part in parts(wiring)])


def grouped(wirings):
    """The tuple of the groups of WIRINGs that are alike, each the tuple of their places."""
    places = {}
    for place, wiring in enumerate(wirings):
        places.setdefault((parts(wiring), ring_table(wiring)), []).append(place)
    return tuple([tuple(row) for row in places.values()])


def fewest_taken(one, other, taking):
    """The fewest parts, of several the least, behind whose taking out of both the WIRINGs are alike."""
    names = list(parts(one))
    for many in range(len(names)):
        for chosen in combinations(names, many):
            if alike(taking(one, chosen), taking(other, chosen)):
                return chosen
    # Without any parts they are alike.
    return tuple(names)


def alike_without(one, other):
    """The fewest parts that must be opened in both so that they are alike, of several the least."""
    check_same_parts(one, other)
    return fewest_taken(one, other, opened)


def alike_if_bridged(one, other):
    """The fewest parts that must be bridged in both so that they are alike, of several the least."""
    check_same_parts(one, other)
    return fewest_taken(one, other, bridged)
