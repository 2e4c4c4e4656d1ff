"""[5]: rings and cuts."""

import unittest
from itertools import permutations

from sameloops.errors import NoPart
from sameloops.rings import (cut_over, cut_through, cuts, is_cut, is_ring, ring_over, ring_table, ring_through, rings)
from sameloops.wirings import forest, nodes, parts
from tests.support import (EIGHT, FIVE, GATE, GROUPS, HOUSE, LOOSE, POINTED, ROUND, SAME_NAMES, SIDE_BY_SIDE, SQUARE,
                           WIRINGS, listed, slow_cuts, slow_rings)

SIGNS = "abcdefghijklmn"
WIDE = tuple([(sign, "k", "l") for sign in SIGNS])
LONG = tuple([(sign, sign, (SIGNS + "a")[at + 1]) for at, sign in enumerate(SIGNS)])
DOUBLE = tuple([(sign, sign[0], other) for one, other in zip("klmnopq", "lmnopqk") for sign in (one + "0", one + "1")])
SIX = tuple([(one + other, one, other) for one in "klmnop" for other in "klmnop" if one < other])[:-1]
# The graph of Petersen without one part.
STAR = tuple(sorted([("a" + str(at), "k" + str(at), "k" + str((at + 1) % 5)) for at in range(4)]
                    + [("b" + str(at), "k" + str(at), "l" + str(at)) for at in range(5)]
                    + [("c" + str(at), "l" + str(at), "l" + str((at + 2) % 5)) for at in range(5)]))


class ExamplesTest(unittest.TestCase):

    def test_rings_and_cuts(self):
        self.assertEqual(rings(HOUSE), [
            (("a", "along"), ("b", "along"), ("c", "along")), (("a", "along"), ("b", "along"), ("f", "against")),
            (("c", "along"), ("f", "along")), (("d", "along"),)])
        self.assertEqual(cuts(HOUSE), [
            (("a", "along"), ("b", "against")), (("a", "along"), ("c", "against"), ("f", "along")),
            (("b", "along"), ("c", "against"), ("f", "along")), (("e", "along"),)])

    def test_over_and_table(self):
        self.assertEqual((ring_over(HOUSE, "c"), cut_over(HOUSE, "b"), cut_over(HOUSE, "c")), (
            (("a", "along"), ("b", "along"), ("c", "along")), (("b", "along"), ("c", "against"), ("f", "along")), None))
        self.assertEqual(ring_table(HOUSE), (
            (("a", "along"), ("b", "along"), ("c", "along")), (("d", "along"),),
            (("a", "along"), ("b", "along"), ("f", "against"))))

    def test_through(self):
        self.assertEqual(ring_through(HOUSE, "c", "f"), (("c", "along"), ("f", "along")))
        self.assertIsNone(ring_through(HOUSE, "d", "a"))
        self.assertEqual(cut_through(HOUSE, "a", "b"), (("a", "along"), ("b", "against")))
        self.assertIsNone(cut_through(HOUSE, "d", "d"))


class AllTest(unittest.TestCase):

    def test_small_ones_against_the_slow_answers(self):
        for wiring in [*WIRINGS, FIVE]:
            with self.subTest(wiring):
                self.assertEqual(rings(wiring), slow_rings(wiring))
                self.assertEqual(cuts(wiring), slow_cuts(wiring))

    def test_none(self):
        self.assertEqual((rings(()), cuts(()), rings(LOOSE)), ([], [], []))
        self.assertEqual(cuts((("a", "k", "k"), ("b", "k", "k"))), [])

    def test_single_parts(self):
        self.assertEqual((rings((("a", "k", "k"),)), cuts((("a", "k", "l"),))), ([(("a", "along"),)],) * 2)
        self.assertEqual(cuts(LOOSE), [(("a", "along"),), (("b", "along"),), (("c", "along"),)])

    def test_groups_and_a_common_node(self):
        self.assertEqual(rings(GROUPS), [(("a", "along"), ("b", "along")), (("d", "along"),)])
        self.assertEqual(cuts(GROUPS), [(("a", "along"), ("b", "against")), (("c", "along"),), (("e", "along"),)])
        self.assertEqual(rings(EIGHT), [(("a", "along"), ("b", "along"), ("c", "along")),
                                        (("d", "along"), ("e", "against"), ("f", "along"))])
        self.assertEqual(len(cuts(EIGHT)), 6)

    def test_names_of_nodes_and_parts_alike(self):
        self.assertEqual(rings(SAME_NAMES), [(("a", "along"), ("b", "along"), ("c", "along"))])
        self.assertEqual(rings(POINTED), [(("a.1", "along"), ("a.10", "along"), ("a.2", "along"))])

    def test_fourteen_parts(self):
        counted = {"wide": (WIDE, 91, 1), "long": (LONG, 1, 91), "double": (DOUBLE, 135, 21), "six": (SIX, 133, 30)}
        for name, (wiring, many_rings, many_cuts) in counted.items():
            with self.subTest(name):
                found, others = rings(wiring), cuts(wiring)
                self.assertEqual((len(found), len(others)), (many_rings, many_cuts))
                self.assertEqual((found, others), (sorted(set(found)), sorted(set(others))))
                self.assertTrue(all(is_ring(wiring, ring) for ring in found))
                self.assertTrue(all(is_cut(wiring, cut) for cut in others))

    def test_ten_nodes_and_fourteen_parts(self):
        self.assertEqual((len(nodes(STAR)), len(STAR)), (10, 14))
        self.assertEqual(cuts(STAR), slow_cuts(STAR))
        self.assertTrue(all(is_ring(STAR, ring) for ring in rings(STAR)))


class IsTest(unittest.TestCase):

    def test_all_of_them(self):
        for wiring in [*WIRINGS, FIVE]:
            for ring in rings(wiring):
                self.assertIs(is_ring(wiring, ring), True)
            for cut in cuts(wiring):
                self.assertIs(is_cut(wiring, cut), True)

    def test_nearly_right(self):
        ring = (("a", "along"), ("b", "along"), ("f", "against"))
        cut = (("a", "along"), ("c", "against"), ("f", "along"))
        for check, wiring, thing in ((is_ring, HOUSE, ring), (is_cut, HOUSE, cut)):
            self.assertIs(check(wiring, thing), True)
            for row in permutations(thing):
                self.assertIs(check(wiring, row), row == thing)
            others = [thing[:2], thing[1:], thing + thing[-1:], thing[:1] + thing, thing + (("z", "along"),),
                      listed(thing), list(thing), tuple(listed(thing)), (thing,), [thing], thing + ((),),
                      thing + (None,),
                      thing[:2] + (("f",),), thing[:2] + (("f", "along", "f"),), thing[:2] + (("f", True),),
                      thing[:2] + (("f", 1),), thing[:2] + (("f", None),), thing[:2] + ((thing[2],),),
                      thing[:2] + ("fa",), thing[:2] + ((("f",), "along"),), thing[:2] + ((["f"], "along"),),
                      thing[:2] + (("f", ["along"]),), thing[:2] + (("f", "beside"),), thing[:2] + (("f", ""),),
                      thing[:2] + ((True, "along"),), thing + (("k", "along"),), (("a", "along"),),
                      tuple([(part, {"along": "against", "against": "along"}[way]) for part, way in thing]),
                      tuple([(part, "along") for part, _ in thing]),
                      tuple([(part, "against") for part, _ in thing])]
            for other in others:
                with self.subTest(thing=other):
                    self.assertIs(check(wiring, other), False)

    def test_other_kinds(self):
        for thing in (None, True, False, 0, 1, -1, "", "a", "along", (), [], ((),), ("a", "along"), ["a", "along"],
                      ((("a", "along"),),), (0,), (True,), (None,), ("ab",), (((((((((((("d",),),),),),),),),),),),)):
            for wiring in ((), HOUSE, (("a", "k", "k"),)):
                with self.subTest(thing=thing):
                    self.assertIs(is_ring(wiring, thing), False)
                    self.assertIs(is_cut(wiring, thing), False)

    def test_two_rings_are_none(self):
        both = (("a", "along"), ("b", "along"), ("c", "along"), ("d", "along"), ("e", "against"), ("f", "along"))
        self.assertIs(is_ring(EIGHT, both), False)
        self.assertIs(is_ring((("a", "k", "k"), ("b", "k", "k")), (("a", "along"), ("b", "along"))), False)
        self.assertIs(is_ring((("a", "k", "k"), ("b", "l", "l")), (("a", "along"), ("b", "along"))), False)
        self.assertIs(is_ring(GROUPS, (("a", "along"), ("b", "along"), ("d", "along"))), False)
        two = (("a", "k", "l"), ("b", "l", "k"), ("c", "m", "n"), ("d", "n", "m"))
        self.assertIs(is_ring(two, tuple([(part, "along") for part in "abcd"])), False)

    def test_a_row_with_loose_ends_is_no_ring(self):
        self.assertIs(is_ring(LOOSE, (("a", "along"), ("b", "along"))), False)
        self.assertIs(is_ring((("a", "k", "l"), ("b", "l", "m"), ("c", "m", "l")),
                              (("a", "along"), ("b", "along"), ("c", "along"))), False)

    def test_two_cuts_are_none(self):
        self.assertIs(is_cut(LOOSE, (("a", "along"), ("b", "along"))), False)
        self.assertIs(is_cut(LOOSE, (("a", "along"), ("b", "against"))), False)
        self.assertIs(is_cut(GROUPS, (("a", "along"), ("b", "against"), ("c", "along"))), False)
        self.assertIs(is_cut(HOUSE, (("a", "along"), ("b", "against"), ("e", "along"))), False)
        # Around the two opposite nodes of a square, with parts of either direction.
        square = (("a", "k", "l"), ("b", "m", "l"), ("c", "m", "n"), ("d", "k", "n"))
        self.assertIs(is_cut(square, tuple([(part, "along") for part in "abcd"])), False)

    def test_too_few_parts_are_no_cut(self):
        self.assertIs(is_cut(SIDE_BY_SIDE, tuple([(part, "along") for part in "abcd"])), True)
        self.assertIs(is_cut(SIDE_BY_SIDE, tuple([(part, "along") for part in "abc"])), False)
        self.assertIs(is_cut(HOUSE, (("d", "along"),)), False)

    def test_things_beyond_the_bounds(self):
        thing = tuple([("p" + str(number), "along") for number in range(2000)])
        self.assertEqual((is_ring(HOUSE, thing), is_cut(HOUSE, thing)), (False, False))


class OverTest(unittest.TestCase):

    def test_just_one_part_beside_the_forest(self):
        for wiring in [*WIRINGS, FIVE, WIDE, LONG, DOUBLE, SIX, STAR]:
            taken = forest(wiring)
            for part in parts(wiring):
                ring, cut = ring_over(wiring, part), cut_over(wiring, part)
                if part in taken:
                    self.assertIsNone(ring)
                    self.assertIs(is_cut(wiring, cut), True)
                    self.assertEqual([name for name, _ in cut if name in taken], [part])
                else:
                    self.assertIsNone(cut)
                    self.assertIs(is_ring(wiring, ring), True)
                    self.assertEqual([name for name, _ in ring if name not in taken], [part])

    def test_table(self):
        for wiring in [*WIRINGS, FIVE, WIDE]:
            told = [ring_over(wiring, part) for part in parts(wiring)]
            self.assertEqual(ring_table(wiring), tuple([ring for ring in told if ring is not None]))
        self.assertEqual((ring_table(()), ring_table(LOOSE)), ((), ()))

    def test_many_parts(self):
        wiring = tuple(sorted([(one + other, one, other) for one in "klmnopqr" for other in "klmnopqr" if one < other]))
        self.assertEqual(len(ring_table(wiring[:24])), 24 - 7)
        self.assertTrue(all(is_ring(wiring, ring) for ring in ring_table(wiring[:24])))
        self.assertEqual(cut_over(wiring[:24], "kr"), tuple(
            [(one + "r", "along") for one in "klmnopq" if one + "r" in parts(wiring[:24])]))

    def test_no_part(self):
        for told in (ring_over, cut_over):
            for wiring, part in ((HOUSE, "k"), (HOUSE, "aa"), ((), "a")):
                with self.subTest(told.__name__), self.assertRaises(NoPart) as caught:
                    told(wiring, part)
                self.assertEqual(caught.exception.part, part)


class ThroughTest(unittest.TestCase):

    def check(self, wiring, through, found, check):
        for part in parts(wiring):
            for other in parts(wiring):
                both = [thing for thing in found if part in dict(thing) and other in dict(thing)]
                told = through(wiring, part, other)
                if both:
                    self.assertIs(check(wiring, told), True)
                    self.assertTrue(part in dict(told) and other in dict(told))
                    self.assertEqual(len(told), min([len(thing) for thing in both]))
                else:
                    self.assertIsNone(told)

    def test_all_pairs(self):
        for wiring in [*WIRINGS, FIVE]:
            with self.subTest(wiring):
                self.check(wiring, ring_through, slow_rings(wiring), is_ring)
                self.check(wiring, cut_through, slow_cuts(wiring), is_cut)

    def test_the_same_part_twice(self):
        self.assertEqual((ring_through(HOUSE, "d", "d"), ring_through(HOUSE, "c", "c")),
                         ((("d", "along"),), (("c", "along"), ("f", "along"))))
        self.assertEqual((ring_through(HOUSE, "e", "e"), cut_through(HOUSE, "e", "e")), (None, (("e", "along"),)))
        self.assertEqual(cut_through(HOUSE, "a", "a"), (("a", "along"), ("b", "against")))

    def test_fourteen_parts(self):
        self.assertEqual(ring_through(LONG, "a", "n"), tuple([(sign, "along") for sign in SIGNS]))
        self.assertEqual(cut_through(WIDE, "a", "n"), tuple([(sign, "along") for sign in SIGNS]))
        self.assertEqual((ring_through(WIDE, "n", "a"), cut_through(LONG[:10], "c", "c")),
                         ((("a", "along"), ("n", "against")), (("c", "along"),)))
        self.assertEqual((len(ring_through(SIX, "kl", "mn")), len(ring_through(DOUBLE, "k0", "n1"))), (4, 7))
        self.assertEqual((len(ring_through(STAR, "a0", "c0")), len(cut_through(STAR, "a0", "a1"))), (5, 3))

    def test_no_part(self):
        for told in (ring_through, cut_through):
            for part, other, first in (("y", "z", "y"), ("z", "y", "z"), ("a", "k", "k"), ("k", "a", "k")):
                with self.subTest(told.__name__), self.assertRaises(NoPart) as caught:
                    told(HOUSE, part, other)
                self.assertEqual(caught.exception.part, first)


if __name__ == "__main__":
    unittest.main()
