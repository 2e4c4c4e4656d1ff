"""Wirings that are found from their rings or cuts, or from looks at lamps that burn."""

from sameloops.built import built, built_counterpart, built_from_cuts, built_from_rings, built_from_sets, ring_sets
from sameloops.errors import NoFit
from sameloops.wirings import check_parts, only, rows_from


def from_rings(parts, rings):
    """A WIRING with just these parts whose RINGs are just these; None if there is none."""
    return built_from_rings(parts, rings)


def from_cuts(parts, cuts):
    """A WIRING with just these parts whose CUTs are just these; None if there is none."""
    return built_from_cuts(parts, cuts)


def counterpart(wiring):
    """A WIRING with the same parts whose CUTs are the RINGs of this one; None if there is none."""
    return built_counterpart(wiring)


def from_sets(parts, sets):
    """A WIRING with just these parts whose rings have just these sets of parts; None if there is none."""
    return built_from_sets(parts, sets)


def burns(wiring, closed, part):
    """Whether this part is on a ring that consists of it and closed parts alone."""
    check_parts(wiring, [*closed, part])
    _, start, end = only(wiring, (part,))[0]
    return end in rows_from(only(wiring, closed), start)


def told_back(parts, lights):
    """A WIRING with these parts for which burns returns what lights returns; None if there is none."""
    taken = []
    sets = []
    for part in parts:
        if not lights(tuple(taken), part):
            taken.append(part)
        else:
            # On the ring of this part and parts taken is just what it does not burn without.
            needed = [name for name in taken if not lights(tuple([other for other in taken if other != name]), part)]
            sets.append((part, *needed))
    return built(parts, sets, False)


def parting_look(wiring, other):
    """A pair (closed, part), as few closed as can be, for which burns differs; None if there is none."""
    if [item[0] for item in wiring] != [item[0] for item in other]:
        raise NoFit()
    looks = []
    for names in ring_sets(wiring) + ring_sets(other):
        looks.extend([(tuple([name for name in names if name != part]), part) for part in names])
    looks = [(closed, part) for closed, part in looks if burns(wiring, closed, part) != burns(other, closed, part)]
    return min(looks, key=lambda look: len(look[0]), default=None)
