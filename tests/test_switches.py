"""[11]: switches and lamps."""

import unittest

from sameloops.alike import alike
from sameloops.errors import NoFit, NoPart, NoSwitch, OtherParts
from sameloops.rings import is_ring
from sameloops.switches import idle, lights, lit, lit_by, parting_deeds, parting_setting, set_to
from sameloops.wirings import bridged, opened, parts, reversed_parts
from tests import exact
from tests.support import (EIGHT, GATE, GATES, GROUPS, HOUSE, LOOP, LOOSE, NESTED, ONE, OTHER, SIDE_BY_SIDE, SQUARE,
                           THIRD, TURNED_SQUARE, WHEEL, WIRINGS, all_wirings, families, scattered, slow_rings,
                           small_wirings, subsets)

BRIDGE = (("l", "u", "v"), ("p", "x", "u"), ("q", "u", "y"), ("r", "x", "v"), ("s", "y", "x"), ("t", "v", "y"))
TWO = (("a", "n", "m"), ("b", "m", "n"))
BACK = (("a", "n", "m"), ("b", "n", "m"))
# Resistances that bring out either direction of a current, each part once small or great.
SIZES = (1, 50)


def slow_word(wiring, source, lamp):
    """The word of lit, by the directions in all RINGs."""
    found = {dict(ring)[source] == dict(ring)[lamp] for ring in slow_rings(wiring)
             if source in dict(ring) and lamp in dict(ring)}
    return {0: "never", 1: "always", 2: "sometimes"}[len(found)]


def slow_settings(switches):
    return sorted(subsets(switches), key=lambda chosen: (len(chosen), chosen))


def one_by_one(wiring, switches, closed):
    """The wiring when switches are bridged and opened one by one, the last ones first."""
    for part in reversed(switches):
        wiring = bridged(wiring, (part,)) if part in closed else opened(wiring, (part,))
    return wiring


class ExamplesTest(unittest.TestCase):

    def test_lit(self):
        self.assertEqual((lit(BRIDGE, "s", "l"), lit(BRIDGE, "s", "p"), lit(opened(BRIDGE, ("r",)), "s", "l"),
                          lit(opened(BRIDGE, ("p", "r")), "s", "l")), ("sometimes", "always", "always", "never"))
        self.assertEqual(lights(BRIDGE, ("q", "r"), "s", "l"), [((), "always"), (("q", "r"), "always")])
        self.assertEqual(set_to(BRIDGE, ("q", "r"), ("q",)),
                         (("l", "u", "v"), ("p", "x", "u"), ("s", "u", "x"), ("t", "v", "u")))
        self.assertEqual(sorted(lit_by(BRIDGE, "s", "l")),
                         [(("l", "along"), ("p", "along"), ("s", "along"), ("t", "along")),
                          (("l", "along"), ("q", "against"), ("r", "against"), ("s", "against"))])

    def test_settings(self):
        self.assertEqual((idle(HOUSE, ("c", "d", "e")), idle(BRIDGE, ("l",))), (("d", "e"), ()))
        self.assertEqual((parting_setting(TWO, BACK, ("b",)), parting_setting(TWO, BACK, ()), parting_deeds(TWO, BACK),
                          parting_deeds(TWO, TWO)), (None, (), ((), ()), None))

    def test_errors(self):
        with self.assertRaises(OtherParts) as caught:
            parting_deeds(HOUSE, opened(HOUSE, ("f",)))
        self.assertEqual(caught.exception.part, "f")
        with self.assertRaises(NoFit):
            lights(BRIDGE, ("q", "s"), "s", "l")


class SetToTest(unittest.TestCase):

    def test_in_any_order(self):
        for wiring in (*WIRINGS, ONE, BRIDGE, GATES):
            for switches in (parts(wiring)[:3], parts(wiring)[1::2], parts(wiring)):
                for closed in subsets(switches)[::3]:
                    told = set_to(wiring, switches, closed)
                    self.assertEqual(told, one_by_one(wiring, switches, closed))
                    self.assertEqual(told, bridged(opened(wiring, [part for part in switches if part not in closed]),
                                                   closed))

    def test_errors_in_order(self):
        for switches, closed, error, part in ((("a", "y", "z"), ("b",), NoPart, "y"),
                                              (("a",), ("a", "b"), NoSwitch, "b"),
                                              (("a", "b"), ("z",), NoSwitch, "z"), ((), ("c", "d"), NoSwitch, "c")):
            with self.assertRaises(error) as caught:
                set_to(HOUSE, switches, closed)
            self.assertEqual(caught.exception.part, part)
        self.assertEqual(set_to(HOUSE, (), ()), HOUSE)
        self.assertEqual(set_to(HOUSE, parts(HOUSE), parts(HOUSE)), ())


class LitTest(unittest.TestCase):

    def test_against_all_rings(self):
        words = set()
        for wiring in [*small_wirings()[::2], BRIDGE, GATE, HOUSE, EIGHT, ONE, GROUPS]:
            for source in parts(wiring):
                for lamp in parts(wiring):
                    word = lit(wiring, source, lamp)
                    self.assertEqual(word, slow_word(wiring, source, lamp))
                    self.check_rings(wiring, source, lamp, word)
                    words.add(word)
        self.assertEqual(words, {"never", "always", "sometimes"})

    def check_rings(self, wiring, source, lamp, word):
        told = lit_by(wiring, source, lamp)
        self.assertEqual(len(told), {"never": 0, "always": 1, "sometimes": 2}[word])
        for ring in told:
            self.assertTrue(is_ring(wiring, ring))
            self.assertTrue(source in dict(ring) and lamp in dict(ring))
        self.assertEqual(len({dict(ring)[source] == dict(ring)[lamp] for ring in told}), len(told))

    def test_the_lamp_is_the_source(self):
        for wiring in (HOUSE, GATE, LOOSE, GROUPS):
            for part in parts(wiring):
                on_ring = any(part in dict(ring) for ring in slow_rings(wiring))
                self.assertEqual(lit(wiring, part, part), "always" if on_ring else "never")
                self.assertEqual(len(lit_by(wiring, part, part)), int(on_ring))

    def test_against_resistances(self):
        # The current of the lamp, for great and small resistances, has one sign, both or none.
        for wiring in (BRIDGE, SQUARE, HOUSE, SIDE_BY_SIDE, opened(GATE, "b")):
            source = parts(wiring)[0]
            signs = {part: set() for part in parts(wiring)}
            for pick in range(2 ** len(wiring)):
                rules = [(item[0], ("line", SIZES[pick >> at & 1], -1, 0)) for at, item in enumerate(wiring)]
                rules[0] = (source, ("line", SIZES[pick & 1], -1, -6))
                for part, current, _ in exact.bench(wiring, rules):
                    signs[part].add((current[0] > 0) - (current[0] < 0))
            for part, found in signs.items():
                word = "never" if found == {0} else "always" if found in ({1}, {-1}) else "sometimes"
                self.assertEqual(lit(wiring, source, part), word, (wiring, part, found))

    def test_fourteen_parts(self):
        wiring = scattered(14, 6, 2)
        for lamp in parts(wiring)[::3]:
            self.check_rings(wiring, "p04", lamp, lit(wiring, "p04", lamp))

    def test_errors_in_order(self):
        for call in (lit, lit_by):
            for source, lamp, part in (("x", "y", "x"), ("a", "y", "y"), ("x", "a", "x"), ("x", "x", "x")):
                with self.assertRaises(NoPart) as caught:
                    call(HOUSE, source, lamp)
                self.assertEqual(caught.exception.part, part)
            with self.assertRaises(NoPart):
                call((), "a", "a")


class LightsTest(unittest.TestCase):

    def test_all_settings(self):
        for wiring in (BRIDGE, GATE, GATES, HOUSE, ONE, NESTED, SQUARE):
            names = parts(wiring)
            for source, lamp in ((names[0], names[-1]), (names[1], names[1]), (names[-1], names[2])):
                switches = tuple([part for part in names if part not in (source, lamp)][:5])
                words = [(closed, slow_word(one_by_one(wiring, switches, closed), source, lamp))
                         for closed in slow_settings(switches)]
                self.assertEqual(lights(wiring, switches, source, lamp),
                                 [pair for pair in words if pair[1] != "never"])

    def test_edges(self):
        self.assertEqual(lights(BRIDGE, (), "s", "l"), [((), "sometimes")])
        self.assertEqual(lights(LOOSE, ("a", "b"), "c", "c"), [])
        self.assertEqual(lights(LOOP, ("a", "b"), "c", "c"), [(("a", "b"), "always")])
        self.assertEqual(lights(SIDE_BY_SIDE, ("b", "c"), "a", "d"), [((), "always")])

    def test_eight_switches(self):
        row = tuple([(f"s{at}", f"k{at}", f"k{at + 1}") for at in range(8)]) + (("x", "k8", "y"), ("y", "y", "k0"))
        self.assertEqual(lights(row, parts(row)[:8], "x", "y"), [(parts(row)[:8], "always")])
        beside = tuple([(f"s{at}", "k", "l") for at in range(8)]) + (("x", "l", "y"), ("y", "y", "k"))
        told = lights(beside, parts(beside)[:8], "x", "y")
        self.assertEqual((len(told), told[0], told[8]), (255, (("s0",), "always"), (("s0", "s1"), "always")))

    def test_errors_in_order(self):
        for switches, source, lamp, part in ((("a", "y"), "w", "x", "y"), (("a",), "w", "x", "w"),
                                             (("a",), "a", "x", "x"), (("x", "y"), "x", "y", "x")):
            with self.assertRaises(NoPart) as caught:
                lights(HOUSE, switches, source, lamp)
            self.assertEqual(caught.exception.part, part)
        for switches, source, lamp in ((("a", "b"), "b", "c"), (("a", "b"), "c", "a"), (("a",), "a", "a")):
            with self.assertRaises(NoFit):
                lights(HOUSE, switches, source, lamp)


class IdleTest(unittest.TestCase):

    def test_against_all_settings(self):
        for wiring in [*small_wirings()[::3], GATE, HOUSE, EIGHT, GROUPS]:
            for switches in subsets(parts(wiring))[::3]:
                self.assertEqual(idle(wiring, switches), self.slow_idle(wiring, switches), (wiring, switches))

    def slow_idle(self, wiring, switches):
        found = []
        for part in switches:
            others = tuple([other for other in switches if other != part])
            rows = [(one_by_one(wiring, switches, closed), one_by_one(wiring, switches, closed + (part,)))
                    for closed in subsets(others)]
            if all(alike(one, other) for one, other in rows):
                found.append(part)
        return tuple(found)

    def test_by_hand(self):
        self.assertEqual(idle(EIGHT, ("a", "b", "c", "d")), ("a", "b", "c"))
        self.assertEqual(idle(EIGHT, parts(EIGHT)), parts(EIGHT))
        self.assertEqual((idle(GATE, parts(GATE)[1:]), idle(LOOSE, ("b",)), idle((), ())), ((), ("b",), ()))
        with self.assertRaises(NoPart) as caught:
            idle(HOUSE, ("b", "y", "z"))
        self.assertEqual(caught.exception.part, "y")


class PartingTest(unittest.TestCase):

    def test_setting_against_all(self):
        pairs = [(ONE, OTHER), (ONE, THIRD), (SQUARE, TURNED_SQUARE), (SQUARE, reversed_parts(SQUARE, "b")),
                 (GATE, reversed_parts(GATE, "a")), (LOOP, LOOSE)]
        firsts = [family[0] for family in families(3)]
        pairs += [(one, other) for at, one in enumerate(firsts) for other in firsts[at % 4::4]]
        for one, other in pairs:
            if parts(one) == parts(other):
                for switches in subsets(parts(one))[::3]:
                    rows = [closed for closed in slow_settings(switches)
                            if slow_rings(one_by_one(one, switches, closed))
                            != slow_rings(one_by_one(other, switches, closed))]
                    self.assertEqual(parting_setting(one, other, switches), rows[0] if rows else None)

    def test_setting_by_hand(self):
        wiring = (("a", "k", "l"), ("b", "l", "m"), ("c", "m", "k"), ("s", "k", "l"), ("t", "l", "m"))
        other = (("a", "k", "l"), ("b", "m", "l"), ("c", "m", "k"), ("s", "k", "l"), ("t", "l", "m"))
        self.assertEqual(parting_setting(wiring, other, ("s", "t")), ())
        self.assertEqual(parting_setting(wiring, other, ("c", "s")), ())
        self.assertEqual(parting_setting(wiring, reversed_parts(wiring, "c"), ("a", "b", "s", "t")), None)
        self.assertEqual(parting_setting(TWO, BACK, ("a", "b")), None)
        # In a row the direction of a part counts only where all others are closed.
        self.assertEqual(parting_setting(LOOP, reversed_parts(LOOP, "c"), ("b",)), ("b",))

    def test_setting_errors(self):
        for one, other, switches, error, part in ((ONE, ONE[1:], ("z",), OtherParts, "a"),
                                                  (ONE[:4], ONE, (), OtherParts, "e"),
                                                  (ONE, OTHER, ("a", "y", "z"), NoPart, "y")):
            with self.assertRaises(error) as caught:
                parting_setting(one, other, switches)
            self.assertEqual(caught.exception.part, part)

    def test_deeds_of_small_wirings(self):
        found = []
        for many in (1, 2, 3):
            for one in [family[0] for family in families(many)]:
                for other in [family[-1] for family in families(many)]:
                    found.append(self.check_deeds(one, other))
        firsts = [family[0] for family in families(4)]
        for at, one in enumerate(firsts[::5]):
            for other in firsts[at % 9::9]:
                found.append(self.check_deeds(one, other))
        self.assertEqual(set(found), {0, 1, 2})

    def test_deeds_of_greater_wirings(self):
        many = scattered(14, 7, 5)
        for one, other, left in ((ONE, OTHER, 0), (ONE, THIRD, 1), (GATE, reversed_parts(GATE, "a"), 2),
                                 (LOOP, LOOSE, 1), (NESTED, reversed_parts(NESTED, ("d2", "e")), 2),
                                 (GATES, reversed_parts(GATES, "j"), 2),
                                 (SIDE_BY_SIDE, tuple([(part, part, part + "0") for part in "abcd"]), 1),
                                 (WHEEL, WHEEL, 0), (many, many, 0), (many, reversed_parts(many, ("p08",)), 2)):
            self.assertEqual(self.check_deeds(one, other), left)

    def check_deeds(self, one, other):
        """How many parts are left, 0 for alike ones."""
        told = parting_deeds(one, other)
        self.assertEqual(told is None, alike(one, other))
        if told is None:
            return 0
        opens, bridges = told
        self.assertEqual(opens + bridges, tuple(opens) + tuple(bridges))
        self.assertEqual((list(opens), list(bridges)), (sorted(opens), sorted(bridges)))
        self.assertEqual(len(set(opens + bridges)), len(opens + bridges))
        rows = [bridged(opened(wiring, opens), bridges) for wiring in (one, other)]
        self.assertFalse(alike(rows[0], rows[1]))
        rings = [[parts(ring) for ring in slow_rings(wiring)] if len(wiring) < 9 else None for wiring in (one, other)]
        left = len(one) - len(opens) - len(bridges)
        if rings[0] is not None:
            self.assertEqual(left, 2 if sorted(rings[0]) == sorted(rings[1]) else 1)
        return left

    def test_deeds_errors(self):
        for one, other, part in ((ONE, ONE[1:], "a"), (LOOP, HOUSE, "d"), ((), LOOP, "a")):
            with self.assertRaises(OtherParts) as caught:
                parting_deeds(one, other)
            self.assertEqual(caught.exception.part, part)
        self.assertIsNone(parting_deeds((), ()))


if __name__ == "__main__":
    unittest.main()
