"""Switches that are open or closed, and lamps that are lit or not, whatever the parts are."""

from itertools import combinations

from sameloops.alike import alike
from sameloops.errors import NoFit, NoSwitch
from sameloops.rings import oriented, rings, simple_rows
from sameloops.wirings import blocks, bridged, check_parts, check_same_parts, forest, only, opened, parts, without

# By how many directions the source and the lamp have to one another on rings.
WORDS = ("never", "always", "sometimes")


def set_to(wiring, switches, closed):
    """The WIRING in which the closed switches are bridged and the others are opened."""
    check_parts(wiring, switches)
    for part in closed:
        if part not in switches:
            raise NoSwitch(part)
    return opened(bridged(wiring, closed), [part for part in switches if part not in closed])


def rows_with(wiring, source, lamp):
    """The rows of pairs (part, way) round the rings that have source, gone along, and lamp."""
    _, start, end = only(wiring, (source,))[0]
    rows = [((source, "along"), *row) for row in simple_rows(without(wiring, (source,)), end, start)]
    return [row for row in rows if lamp in dict(row)]


def lit_by(wiring, source, lamp):
    """One RING with both for each direction in which the two can stand to one another."""
    check_parts(wiring, (source, lamp))
    found = {}
    for row in rows_with(wiring, source, lamp):
        found[dict(row)[lamp]] = oriented(row)
    return list(found.values())


def lit(wiring, source, lamp):
    """Whether there is a current at the lamp for all resistances, "always", for some or for none."""
    return WORDS[len(lit_by(wiring, source, lamp))]


def settings_of(names, many):
    """All settings with so many closed switches, ascending."""
    return list(combinations(names, many))


def settings(switches):
    """All settings, those with fewer closed switches first."""
    return [chosen for many in range(len(switches) + 1) for chosen in settings_of(list(switches), many)]


def lights(wiring, switches, source, lamp):
    """The pairs (closed, word) of the settings in which the lamp is not lit "never"."""
    check_parts(wiring, [*switches, source, lamp])
    if source in switches or lamp in switches:
        raise NoFit()
    pairs = [(closed, lit(set_to(wiring, switches, closed), source, lamp)) for closed in settings(switches)]
    return [pair for pair in pairs if pair[1] != "never"]


def idle(wiring, switches):
    """The set of the switches that never matter."""
    check_parts(wiring, switches)
    # Any two parts of a block are on a ring together.
    inner = [names for names in blocks(wiring) if all([part in switches for part in names])]
    return tuple([part for part in switches if any([part in names for names in inner])])


def parting_setting(wiring, other, switches):
    """The first setting in which the two are not alike; None if there is none."""
    check_same_parts(wiring, other)
    check_parts(wiring, switches)
    for closed in settings(switches):
        if not alike(set_to(wiring, switches, closed), set_to(other, switches, closed)):
            return closed
    return None


def ring_without(wiring, other):
    """The parts of a ring of the wiring among which the other one has no ring; None if there is none."""
    for ring in rings(wiring):
        names = parts(ring)
        if len(forest(only(other, names))) == len(names):
            return names
    return None


def parts_that_differ(wiring, other):
    """The parts of a ring of both and two of them that it has in other directions; None if there are none."""
    theirs = {parts(ring): dict(ring) for ring in rings(other)}
    for ring in rings(wiring):
        names = parts(ring)
        for part, way in ring:
            # Both RINGs have their first part along.
            if theirs[names][part] != way:
                return (names, (names[0], part))
    return None


def deeds(wiring, names, left):
    """What to open and what to bridge so that of the parts in names those in left are left alone."""
    rest = tuple([part for part in parts(wiring) if part not in names])
    return (rest, tuple([part for part in names if part not in left]))


def parting_deeds(wiring, other):
    """A pair of parts to open and to bridge so that one or two are left that tell; None if both are alike."""
    check_same_parts(wiring, other)
    names = ring_without(wiring, other) or ring_without(other, wiring)
    if names is not None:
        return deeds(wiring, names, names[:1])
    found = parts_that_differ(wiring, other)
    return None if found is None else deeds(wiring, found[0], found[1])
