"""[13]: wirings from their rings, their cuts and looks."""

import unittest

from sameloops.drawn import burns, counterpart, from_cuts, from_rings, from_sets, parting_look, told_back
from sameloops.errors import NoFit, NoPart
from sameloops.rings import cuts, rings
from sameloops.wirings import is_wiring, opened, parts, reversed_parts
from tests.support import (EIGHT, FIVE, GATE, GATES, GROUPS, HOUSE, LOOP, LOOSE, NESTED, ONE, OTHER, ROUND,
                           ROW_IN_GATE, SAME_NAMES, SIDE_BY_SIDE, SQUARE, THIRD, WHEEL, WIRINGS, all_wirings, families,
                           scattered, slow_rings, small_wirings, subsets)

THREE = tuple([(name, name[0], name[1]) for name in ("au", "av", "aw", "bu", "bv", "bw", "cu", "cv", "cw")])
# Wirings that cannot be drawn in a plane.
CROSSING = (THREE, FIVE, THREE + (("d", "a", "u"),), tuple(sorted(THREE[1:] + (("d", "a", "q"), ("e", "q", "u")))),
            THREE + (("d", "a", "b"),))
TEN = (GATES, FIVE, WHEEL, ROW_IN_GATE, ROUND, NESTED[:10], scattered(10, 6, 1), scattered(10, 5, 2),
       scattered(10, 7, 3), scattered(10, 4, 4), tuple([("p" + str(at), "k", "l") for at in range(10)]),
       tuple([("p" + str(at), "k" + str(at), "k" + str((at + 1) % 10)) for at in range(10)]),
       tuple([("p" + str(at), "k" + str(at), "l" + str(at)) for at in range(10)]))
AB, BC, AC = (("a", "along"), ("b", "against")), (("b", "along"), ("c", "along")), (("a", "along"), ("c", "along"))
# The seven points of a plane in which each two are on a line of three: its lines are the cuts or rings of no wiring.
PLANE = ("abc", "ade", "afg", "bdf", "beg", "cdg", "cef")


def ring_parts(wiring):
    return sorted([parts(ring) for ring in rings(wiring)])


def slow_burns(wiring, closed, part):
    return any(part in dict(ring) and all(name == part or name in closed for name in dict(ring))
               for ring in slow_rings(wiring))


class Watched:
    """Lights for told_back that keep what they were asked."""

    def __init__(self, answer):
        self.answer = answer
        self.asked = []

    def lights(self, closed, part):
        told = self.answer(closed, part)
        self.asked.append(((closed, part), told))
        return told


class ExamplesTest(unittest.TestCase):

    def test_from_rings_and_cuts(self):
        self.assertEqual(rings(from_rings(parts(HOUSE), rings(HOUSE))), rings(HOUSE))
        self.assertEqual(cuts(from_cuts(parts(HOUSE), cuts(HOUSE))), cuts(HOUSE))
        self.assertIsNone(from_rings(("a", "b", "c"), (AB, BC)))
        self.assertEqual(rings(from_rings(("a", "b", "c"), (AB, BC, AC))), [AB, AC, BC])
        self.assertEqual(rings(from_cuts(("a", "b", "c"), (AB, BC, AC))),
                         [(("a", "along"), ("b", "along"), ("c", "against"))])

    def test_counterpart(self):
        other = counterpart(HOUSE)
        self.assertEqual((cuts(other), rings(other)), (rings(HOUSE), cuts(HOUSE)))
        self.assertIsNone(counterpart(THREE))
        self.assertEqual(rings(counterpart(THREE[1:])), cuts(THREE[1:]))

    def test_looks(self):
        self.assertEqual((burns(HOUSE, ("a", "b"), "c"), burns(HOUSE, ("a",), "c"), burns(HOUSE, (), "d"),
                          burns(HOUSE, ("a", "b", "c"), "e")), (True, False, True, False))
        ring, bundle = opened(HOUSE, ("d", "e", "f")), (("a", "k", "m"), ("b", "k", "m"), ("c", "m", "k"))
        told = told_back(parts(ring), lambda closed, part: burns(ring, closed, part))
        self.assertEqual([[part for part, way in found] for found in rings(told)], [["a", "b", "c"]])
        closed, part = parting_look(ring, bundle)
        self.assertEqual((len(closed), burns(ring, closed, part), burns(bundle, closed, part),
                          parting_look(ring, reversed_parts(ring, ("a",)))), (1, False, True, None))
        with self.assertRaises(NoPart) as caught:
            burns(HOUSE, ("a", "z"), "c")
        self.assertEqual(caught.exception.part, "z")


class FromTest(unittest.TestCase):

    def check(self, wiring):
        names, mine, its = parts(wiring), rings(wiring), cuts(wiring)
        for told in (from_rings(names, tuple(mine)), from_rings(names, tuple(mine[::-1])),
                     from_cuts(names, tuple(its)), from_cuts(names, tuple(its[::2] + its[1::2]))):
            self.assertTrue(is_wiring(told))
            self.assertEqual((parts(told), rings(told), cuts(told)), (names, mine, its))
        told = from_sets(names, tuple(ring_parts(wiring)[::-1]))
        self.assertTrue(is_wiring(told))
        self.assertEqual((parts(told), ring_parts(told)), (names, ring_parts(wiring)))

    def check_counterpart(self, wiring):
        told = counterpart(wiring)
        self.assertTrue(is_wiring(told))
        self.assertEqual((parts(told), rings(told), cuts(told)), (parts(wiring), cuts(wiring), rings(wiring)))
        self.assertEqual(rings(counterpart(told)), rings(wiring))

    def test_small_wirings(self):
        for wiring in small_wirings()[::2]:
            with self.subTest(wiring=wiring):
                self.check(wiring)
                self.check_counterpart(wiring)

    def test_ten_parts(self):
        for wiring in (*TEN, *CROSSING, *WIRINGS, ONE, THIRD):
            with self.subTest(wiring=wiring):
                self.check(wiring)
                if wiring not in CROSSING:
                    self.check_counterpart(wiring)

    def test_not_in_a_plane(self):
        for wiring in CROSSING:
            self.assertIsNone(counterpart(wiring))
            self.assertIsNone(from_cuts(parts(wiring), tuple(rings(wiring))))
            self.assertIsNone(from_rings(parts(wiring), tuple(cuts(wiring))))
            self.assertIsNone(from_sets(parts(wiring), tuple([parts(cut) for cut in cuts(wiring)])))

    def test_all_sets_of_rings_of_three_parts(self):
        # Just those lists of rings are answered that a wiring has.
        right = {tuple(slow_rings(family[0])) for many in (0, 1, 2) for family in families(many)}
        for many in (0, 1, 2):
            names = tuple("abc"[:many])
            for chosen in subsets(self.all_rings(names)):
                told = from_rings(names, chosen)
                self.assertEqual(told is not None, chosen in right)
                if told is not None:
                    self.assertEqual((parts(told), tuple(rings(told))), (names, chosen))
        right = {tuple(slow_rings(family[0])) for family in families(3)}
        some = 0
        for chosen in subsets(self.all_rings(("a", "b", "c")))[::3]:
            told = from_rings(("a", "b", "c"), chosen)
            self.assertEqual(told is not None, chosen in right)
            some += told is not None
        self.assertGreater(some, 5)

    def all_rings(self, names):
        """All that is written as a RING of these parts."""
        found = []
        for chosen in subsets(names):
            rows = [((chosen[0], "along"),)] if chosen else []
            for name in chosen[1:]:
                rows = [row + ((name, way),) for row in rows for way in ("against", "along")]
            found.extend(rows)
        return sorted(found)

    def test_all_sets_of_sets(self):
        for many in (1, 2, 3):
            names = tuple("abc"[:many])
            right = {tuple(sorted([parts(ring) for ring in slow_rings(wiring)])) for wiring in all_wirings(many)}
            for chosen in subsets(sorted(subsets(names))):
                told = from_sets(names, chosen)
                self.assertEqual(told is not None, chosen in right, chosen)
                if told is not None:
                    self.assertEqual(ring_parts(told), list(chosen))

    def test_no_such_wiring(self):
        names = tuple("abcdefg")
        lines = tuple([tuple(line) for line in PLANE])
        others = tuple([tuple([name for name in names if name not in line]) for line in PLANE])
        for sets in (lines, others, lines + others, ((),), ((), ("a",)), (("a",), ("a", "b")), (("a", "b"), ("b", "c")),
                     (("a", "b", "c"), ("a", "b", "d")), tuple([(one, other) for one in names for other in names
                                                               if one < other])[1:]):
            with self.subTest(sets=sets):
                self.assertIsNone(from_sets(names, sets))
        ways = (("a", "along"), ("b", "along"))
        self.assertIsNone(from_rings(("a", "b"), (ways, AB)))
        self.assertIsNone(from_cuts(("a", "b"), (ways, AB)))
        # The sets are right, the directions are not.
        self.assertIsNone(from_rings(("a", "b", "c"), (ways, BC, (("a", "along"), ("c", "along")))))
        self.assertIsNone(from_cuts(("a", "b", "c"), (AB, BC, (("a", "along"), ("c", "against")))))
        theta = rings(SQUARE)
        for ring in theta:
            wrong = ring[:-1] + ((ring[-1][0], "along" if ring[-1][1] == "against" else "against"),)
            self.assertIsNone(from_rings(parts(SQUARE), tuple([wrong if found == ring else found for found in theta])))

    def test_without_rings(self):
        self.assertEqual((from_rings((), ()), from_cuts((), ()), from_sets((), ()), counterpart(())), ((), (), (), ()))
        self.assertEqual(cuts(from_rings(("a", "b"), ())), [(("a", "along"),), (("b", "along"),)])
        self.assertEqual(rings(from_cuts(("a", "b"), ())), [(("a", "along"),), (("b", "along"),)])
        self.assertEqual(rings(from_sets(("a", "b"), ())), [])
        self.assertEqual(rings(from_rings(("a", "b"), ((("b", "along"),),))), [(("b", "along"),)])


class BurnsTest(unittest.TestCase):

    def test_against_all_rings(self):
        for wiring in (*all_wirings(3)[::4], SQUARE, GATE, HOUSE, GROUPS, EIGHT, SAME_NAMES):
            for part in parts(wiring):
                for closed in subsets([name for name in parts(wiring) if name != part]):
                    self.assertIs(burns(wiring, closed, part), slow_burns(wiring, closed, part))

    def test_errors_in_order(self):
        for closed, part, wrong in ((("a", "y", "z"), "x", "y"), (("a",), "x", "x"), (("x",), "x", "x")):
            with self.assertRaises(NoPart) as caught:
                burns(HOUSE, closed, part)
            self.assertEqual(caught.exception.part, wrong)


class ToldBackTest(unittest.TestCase):

    def check(self, wiring):
        names = parts(wiring)
        watched = Watched(lambda closed, part: burns(wiring, closed, part))
        told = told_back(names, watched.lights)
        self.assertTrue(is_wiring(told))
        self.assertEqual((parts(told), ring_parts(told)), (names, ring_parts(wiring)))
        self.check_looks(names, watched.asked)
        again = Watched(lambda closed, part: burns(wiring, closed, part))
        self.assertEqual(told_back(list(names), again.lights), told)
        self.assertEqual(again.asked, watched.asked)
        return len(watched.asked)

    def check_looks(self, names, asked):
        looks = [look for look, _ in asked]
        self.assertLessEqual(len(looks), len(names) + len(names) * len(names) // 4)
        self.assertEqual(len(set(looks)), len(looks))
        for closed, part in looks:
            self.assertIs(type(closed), tuple)
            self.assertEqual(list(closed), [name for name in names if name in closed and name != part])
            self.assertIn(part, names)

    def test_small_wirings(self):
        for wiring in small_wirings():
            with self.subTest(wiring=wiring):
                self.check(wiring)

    def test_ten_parts(self):
        for wiring in (*TEN, *CROSSING, *WIRINGS):
            with self.subTest(wiring=wiring):
                self.check(wiring)
        # Five parts in the forest and five others with all of these ahead: as many looks as can be.
        wiring = tuple([("p" + str(at), "k", "l" + str(at)) for at in range(5)]) + tuple(
            [("q" + str(at), "l" + str(at), "l" + str((at + 1) % 5)) for at in range(5)])
        self.assertEqual(self.check(wiring), 10 + 25)

    def test_the_answers_leave_no_choice(self):
        # All wirings with the answers that were given have rings with the same sets of parts.
        for many in (1, 2, 3):
            wirings = all_wirings(many)
            for wiring in wirings[::3]:
                watched = Watched(lambda closed, part: burns(wiring, closed, part))
                told_back(parts(wiring), watched.lights)
                for other in wirings:
                    if all(burns(other, *look) == answer for look, answer in watched.asked):
                        self.assertEqual(ring_parts(other), ring_parts(wiring))

    def test_lights_of_no_wiring(self):
        # Answers in all orders: a wiring comes back that gives them all, or none has them.
        names = ("a", "b", "c")
        wirings = all_wirings(3)
        found = set()
        for answers in range(2 ** 5):
            left = [bool(answers >> at & 1) for at in range(5)]
            watched = Watched(lambda closed, part: left.pop())
            told = told_back(names, watched.lights)
            self.check_looks(names, watched.asked)
            fitting = [wiring for wiring in wirings
                       if all(burns(wiring, *look) == answer for look, answer in watched.asked)]
            self.assertEqual(told is None, fitting == [])
            if told is not None:
                self.assertTrue(all(burns(told, *look) == answer for look, answer in watched.asked))
            found.add(told is None)
        self.assertEqual(found, {False})

    def test_the_plane_of_seven_points(self):
        # A part burns if it is on a line with two closed ones, or on the rest of one with three.
        names = tuple("abcdefg")
        rows = [set(line) for line in PLANE] + [set(names) - set(line) for line in PLANE]

        def lights(closed, part):
            return any(part in row and row <= set(closed) | {part} for row in rows)

        watched = Watched(lights)
        self.assertIsNone(told_back(names, watched.lights))
        self.check_looks(names, watched.asked)
        for wiring in (THREE, FIVE):
            cut_sets = [set(dict(cut)) for cut in cuts(wiring)]
            self.assertIsNone(told_back(parts(wiring), lambda closed, part: any(
                part in row and row <= set(closed) | {part} for row in cut_sets)))

    def test_errors_are_passed_on(self):
        def broken(closed, part):
            if part == "c":
                raise KeyError("lamp")
            return False

        for error in (KeyError, NoPart, ZeroDivisionError):
            with self.assertRaises(error):
                told_back(("a", "b"), Watched(lambda closed, part: burns(LOOP, ("z",), part) if error is NoPart
                                              else {}[part] if error is KeyError else 1 // 0).lights)
        with self.assertRaises(KeyError) as caught:
            told_back(("a", "b", "c", "d"), broken)
        self.assertEqual(caught.exception.args, ("lamp",))

    def test_no_parts(self):
        self.assertEqual(told_back((), None), ())
        self.assertEqual(ring_parts(told_back(("a",), lambda closed, part: True)), [("a",)])
        self.assertEqual(ring_parts(told_back(("a",), lambda closed, part: False)), [])


class PartingLookTest(unittest.TestCase):

    def test_against_all_looks(self):
        for many in (1, 2, 3):
            for one in [family[0] for family in families(many)]:
                for other in [family[-1] for family in families(many)]:
                    self.check(one, other)
        firsts = [family[0] for family in families(4)]
        for at, one in enumerate(firsts[::7]):
            for other in firsts[at % 8::8]:
                self.check(one, other)
        for one, other in ((ONE, THIRD), (ONE, OTHER), (GATE, reversed_parts(GATE, "ace")), (LOOP, LOOSE),
                           (SQUARE, SIDE_BY_SIDE), (HOUSE, (*HOUSE[:5], ("f", "k", "x"))), ((), ())):
            self.check(one, other)

    def check(self, one, other):
        told = parting_look(one, other)
        names = parts(one)
        sizes = [len(closed) for part in names for closed in subsets([name for name in names if name != part])
                 if slow_burns(one, closed, part) != slow_burns(other, closed, part)] if told is None else []
        self.assertEqual(sizes, [])
        if told is not None:
            closed, part = told
            self.assertIs(type(closed), tuple)
            self.assertEqual(list(closed), [name for name in names if name in closed and name != part])
            self.assertNotEqual(burns(one, closed, part), burns(other, closed, part))
            for less in range(len(closed)):
                for look in [chosen for chosen in subsets(names) if len(chosen) == less]:
                    for name in [name for name in names if name not in look]:
                        self.assertEqual(burns(one, look, name), burns(other, look, name))

    def test_twelve_parts(self):
        wiring = scattered(12, 6, 7)
        self.assertIsNone(parting_look(wiring, reversed_parts(wiring, parts(wiring)[::2])))
        closed, part = parting_look(wiring, wiring[:11] + (("p11", "k", "k"),))
        self.assertEqual((closed, part), ((), "p11"))

    def test_other_parts(self):
        for one, other in ((ONE, ONE[1:]), (ONE[:4], ONE), (LOOP, ()), (LOOP, (("a", "k", "l"), ("b", "l", "m"),
                                                                             ("d", "m", "k")))):
            with self.assertRaises(NoFit):
                parting_look(one, other)


if __name__ == "__main__":
    unittest.main()
