"""[4]: wirings."""

import unittest

from sameloops.errors import NoNode, NoPart
from sameloops.wirings import (blocks, bridged, forest, groups, is_wiring, joined_nodes, nodes, opened, parts, rank,
                               reversed_parts, same_drawing)
from tests.support import (EIGHT, FIVE, GATE, GROUPS, HOUSE, LOOSE, POINTED, ROUND, SAME_NAMES, SIDE_BY_SIDE, SQUARE,
                           WIRINGS, listed)

CHAIN = tuple([("p" + sign, "n" + sign, "n" + other)
               for sign, other in zip("abcdefghijklmnopqrstuvwx", "bcdefghijklmnopqrstuvwxy")])


class ExamplesTest(unittest.TestCase):

    def test_first_rows(self):
        self.assertEqual((is_wiring(HOUSE), is_wiring((("a", "n", "m"), ("a", "m", "n"))), nodes(HOUSE), rank(HOUSE),
                          groups(HOUSE)), (True, False, ("k", "m", "n", "x"), 3, [("k", "m", "n", "x")]))

    def test_forest_blocks_opened_bridged(self):
        self.assertEqual(forest(HOUSE), ("a", "b", "e"))
        self.assertEqual(blocks(HOUSE), [("a", "b", "c", "f"), ("d",), ("e",)])
        self.assertEqual(opened(HOUSE, ("b", "c")),
                         (("a", "n", "m"), ("d", "m", "m"), ("e", "k", "x"), ("f", "n", "k")))
        self.assertEqual(bridged(HOUSE, ("b", "e")),
                         (("a", "n", "k"), ("c", "k", "n"), ("d", "k", "k"), ("f", "n", "k")))

    def test_reversed_joined_same(self):
        self.assertEqual((reversed_parts(HOUSE, ("a",))[0], joined_nodes(HOUSE, "x", "m")[4],
                          same_drawing(HOUSE, bridged(HOUSE, ("e",)))), (("a", "m", "n"), ("e", "k", "m"), False))
        self.assertIs(same_drawing((("a", "u", "v"), ("b", "v", "w")), (("a", "v", "u"), ("b", "u", "u2"))), True)
        self.assertIs(same_drawing((("a", "u", "v"),), (("a", "u", "u"),)), False)

    def test_error(self):
        with self.assertRaises(NoPart) as caught:
            opened(HOUSE, ("g", "x"))
        self.assertEqual(caught.exception.part, "g")


class IsWiringTest(unittest.TestCase):

    def test_wirings(self):
        for wiring in [*WIRINGS, FIVE, CHAIN, (("a.", "b..", "z9."),)]:
            with self.subTest(wiring):
                self.assertIs(is_wiring(wiring), True)

    def test_names(self):
        for name, right in (("a", True), ("z", True), ("a1", True), ("a.b", True), ("a.", True), ("a..9z", True),
                            ("", False), ("1a", False), (".a", False), ("A", False), ("aB", False), ("a_", False),
                            ("a b", False), ("a-", False), ("a\n", False), ("\u00e4", False), ("a\u00e4", False),
                            ("a\u0663", False), ("a\u00b2", False), ("`", False), ("{", False), ("a:", False),
                            ("a/", False), (1, False), (True, False), (None, False), (("a",), False), (["a"], False)):
            with self.subTest(name=name):
                self.assertIs(is_wiring(((name, "k", "l"),)), right)
                self.assertIs(is_wiring((("a", name, "l"),)), right)
                self.assertIs(is_wiring((("a", "k", name),)), right)

    def test_order(self):
        rows = (("a", "k", "l"), ("a.", "l", "m"), ("a0", "m", "n"), ("aa", "n", "k"), ("b", "k", "k"))
        self.assertTrue(is_wiring(rows))
        self.assertFalse(is_wiring(rows[::-1]))
        for at in range(4):
            self.assertFalse(is_wiring(rows[:at] + (rows[at + 1], rows[at]) + rows[at + 2:]))
            self.assertFalse(is_wiring(rows[:at] + (rows[at], rows[at]) + rows[at + 1:]))
        self.assertFalse(is_wiring((("a", "k", "l"), ("b", "k", "l"), ("a", "l", "k"))))

    def test_other_kinds(self):
        for thing in (None, True, False, 0, 1, "", "a", "aaa", [], [("a", "k", "l")], (["a", "k", "l"],),
                      ("a", "k", "l"), ((),), (None,), (("a", "k"),), (("a", "k", "l", "m"),), ((("a", "k", "l"),),),
                      ("akl",),
                      (("a", "k", "l"), None), (("a", ("k",), "l"),), (True, ("a", "k", "l")), ((("a", "k", "l")), ()),
                      (("a", "k", "l"), "bkl"), listed(HOUSE), ((((((((((("a",),),),),),),),),),),)):
            with self.subTest(thing=thing):
                self.assertIs(is_wiring(thing), False)

    def test_no_bounds(self):
        many = tuple(sorted([("p" + str(number), "k" + str(number), "k") for number in range(3000)]))
        self.assertTrue(is_wiring(many))
        self.assertFalse(is_wiring(many + many[-1:]))
        self.assertTrue(is_wiring((("a" * 5000, "k" * 5000, "l"),)))


class LookingTest(unittest.TestCase):

    def test_nodes_and_parts(self):
        self.assertEqual((nodes(()), parts(()), parts(HOUSE)), ((), (), ("a", "b", "c", "d", "e", "f")))
        self.assertEqual((nodes(GROUPS), parts(GROUPS)), (("k", "l", "m", "q", "y", "z"), ("a", "b", "c", "d", "e")))
        self.assertEqual((nodes(SAME_NAMES), parts(SAME_NAMES)), (("a", "b", "c", "d"), ("a", "b", "c", "d")))
        self.assertEqual((nodes(POINTED), parts(POINTED)), (("k", "k.", "k.x", "k0"), ("a.1", "a.10", "a.2", "a1")))

    def test_groups_and_rank(self):
        self.assertEqual((groups(()), rank(())), ([], 0))
        self.assertEqual((groups(GROUPS), rank(GROUPS)), ([("k", "l", "m"), ("q",), ("y", "z")], 3))
        self.assertEqual((groups(EIGHT), rank(EIGHT)), ([("k", "l", "m", "o", "p")], 4))
        self.assertEqual((groups(SAME_NAMES), rank(SAME_NAMES)), ([("a", "b", "c", "d")], 3))
        self.assertEqual((groups((("a", "k", "k"),)), rank((("a", "k", "k"),))), ([("k",)], 0))
        self.assertEqual(rank(CHAIN), 24)

    def test_groups_that_late_parts_connect(self):
        wiring = (("a", "m", "n"), ("b", "k", "l"), ("c", "z", "y"), ("d", "n", "k"), ("e", "x", "z"))
        self.assertEqual((groups(wiring), rank(wiring)), ([("k", "l", "m", "n"), ("x", "y", "z")], 5))

    def test_forest(self):
        self.assertEqual((forest(()), forest(GROUPS), forest(LOOSE)), ((), ("a", "c", "e"), ("a", "b", "c")))
        self.assertEqual((forest(SQUARE), forest(GATE), forest(EIGHT)),
                         (("a", "b"), ("a", "b", "d"), ("a", "b", "d", "e")))
        self.assertEqual((forest(SIDE_BY_SIDE), forest((("a", "k", "k"),)), forest(ROUND)),
                         (("a",), (), ("a", "b", "c", "d", "e", "f")))
        self.assertEqual(forest(CHAIN), parts(CHAIN))

    def test_blocks(self):
        self.assertEqual((blocks(()), blocks(LOOSE)), ([], [("a",), ("b",), ("c",)]))
        self.assertEqual(blocks(GROUPS), [("a", "b"), ("c",), ("d",), ("e",)])
        self.assertEqual(blocks(EIGHT), [("a", "b", "c"), ("d", "e", "f")])
        self.assertEqual(blocks(SAME_NAMES), [("a", "b", "c"), ("d",)])
        self.assertEqual((blocks(GATE), blocks(ROUND)), ([parts(GATE)], [parts(ROUND)]))
        self.assertEqual(blocks((("a", "k", "k"), ("b", "k", "k"), ("c", "k", "l"), ("d", "k", "l"))),
                         [("a",), ("b",), ("c", "d")])

    def test_blocks_that_are_entwined_by_name(self):
        wiring = (("a", "k", "l"), ("b", "m", "l"), ("c", "l", "k"), ("d", "l", "n"), ("e", "n", "m"))
        self.assertEqual(blocks(wiring), [("a", "c"), ("b", "d", "e")])

    def test_many_parts(self):
        wiring = CHAIN[:23] + (("pz", "nx", "na"),)
        self.assertEqual((blocks(wiring), forest(wiring), groups(wiring)),
                         ([parts(wiring)], parts(wiring)[:23], [nodes(wiring)]))
        wiring = tuple([("p" + sign, "k", "l") for sign in "abcdefghijklmnopqrstuvwx"])
        self.assertEqual((blocks(wiring), forest(wiring), rank(wiring)), ([parts(wiring)], ("pa",), 1))


class ChangingTest(unittest.TestCase):

    def test_opened(self):
        self.assertEqual((opened(HOUSE, ()), opened(HOUSE, parts(HOUSE)), opened((), ())), (HOUSE, (), ()))
        self.assertEqual(opened(HOUSE, ("e",)), HOUSE[:4] + HOUSE[5:])
        self.assertEqual(opened(SAME_NAMES, ("d",)), SAME_NAMES[:3])

    def test_bridged(self):
        self.assertEqual((bridged(HOUSE, ()), bridged(HOUSE, parts(HOUSE)), bridged((), ())), (HOUSE, (), ()))
        self.assertEqual(bridged(HOUSE, ("d",)), HOUSE[:3] + HOUSE[4:])
        self.assertEqual(bridged(SAME_NAMES, ("a",)), (("b", "a", "c"), ("c", "c", "a"), ("d", "d", "a")))
        self.assertEqual(bridged(SIDE_BY_SIDE, ("b",)), (("a", "u", "u"), ("c", "u", "u"), ("d", "u", "u")))
        self.assertEqual(bridged(EIGHT, ("a", "c")),
                         (("b", "k", "k"), ("d", "k", "o"), ("e", "p", "o"), ("f", "p", "k")))

    def test_bridged_nodes_have_the_least_name_of_all(self):
        wiring = (("a", "z", "y"), ("b", "x", "w"), ("c", "y", "x"), ("d", "z", "v"), ("e", "w", "u"))
        self.assertEqual(bridged(wiring, ("a", "b", "c")), (("d", "w", "v"), ("e", "w", "u")))
        self.assertEqual(bridged(wiring, ("a", "b")), (("c", "y", "w"), ("d", "y", "v"), ("e", "w", "u")))
        self.assertEqual(bridged(wiring, ("a", "c", "d", "e")), (("b", "v", "u"),))

    def test_opened_and_bridged_in_any_order(self):
        for opens, bridges in ((("a",), ("b",)), (("c", "e"), ("a", "f")), (("d",), ("b", "c"))):
            self.assertEqual(bridged(opened(HOUSE, opens), bridges), opened(bridged(HOUSE, bridges), opens))

    def test_reversed_parts(self):
        self.assertEqual((reversed_parts(HOUSE, ()), reversed_parts((), ())), (HOUSE, ()))
        self.assertEqual(reversed_parts(HOUSE, ("c", "d", "f")),
                         HOUSE[:2] + (("c", "n", "k"), ("d", "m", "m"), ("e", "k", "x"), ("f", "k", "n")))
        self.assertEqual(reversed_parts(reversed_parts(GATE, parts(GATE)), parts(GATE)), GATE)

    def test_joined_nodes(self):
        self.assertEqual((joined_nodes(HOUSE, "m", "x"), joined_nodes(HOUSE, "x", "m")),
                         (HOUSE[:4] + (("e", "k", "m"),) + HOUSE[5:],) * 2)
        self.assertEqual(joined_nodes(LOOSE, "s", "p"), (("a", "p", "q"), ("b", "q", "r"), ("c", "r", "p")))
        self.assertEqual(joined_nodes(GROUPS, "y", "l")[:3], (("a", "z", "l"), ("b", "l", "z"), ("c", "k", "l")))
        self.assertEqual(joined_nodes(SAME_NAMES, "b", "a")[0], ("a", "a", "a"))

    def test_a_node_joined_with_itself(self):
        for node in nodes(HOUSE):
            self.assertEqual(joined_nodes(HOUSE, node, node), HOUSE)

    def test_no_part(self):
        for change in (opened, bridged, reversed_parts):
            for wiring, names, part in ((HOUSE, ("g", "x"), "g"), (HOUSE, ("a", "k"), "k"), ((), ("a",), "a"),
                                        (HOUSE, ("a", "b", "c.1", "zz"), "c.1")):
                with self.subTest(change.__name__), self.assertRaises(NoPart) as caught:
                    change(wiring, names)
                self.assertEqual(caught.exception.part, part)

    def test_no_node(self):
        for wiring, node, other, first in ((HOUSE, "y", "z", "y"), (HOUSE, "z", "y", "z"), (HOUSE, "k", "a", "a"),
                                           (HOUSE, "a", "k", "a"), (HOUSE, "b", "b", "b"), ((), "k", "k", "k")):
            with self.subTest(node=node), self.assertRaises(NoNode) as caught:
                joined_nodes(wiring, node, other)
            self.assertEqual(caught.exception.node, first)


class SameDrawingTest(unittest.TestCase):

    def test_same(self):
        names = {"k": "m", "m": "n", "n": "k", "x": "a"}
        other = tuple([(part, names[start], names[end]) for part, start, end in HOUSE])
        self.assertIs(same_drawing(HOUSE, other), True)
        for wiring in WIRINGS:
            self.assertIs(same_drawing(wiring, wiring), True)

    def test_starts_are_starts(self):
        self.assertIs(same_drawing(SQUARE, reversed_parts(SQUARE, ("a",))), False)
        self.assertIs(same_drawing(SQUARE, reversed_parts(SQUARE, parts(SQUARE))), False)
        self.assertIs(same_drawing((("a", "k", "l"),), (("a", "l", "k"),)), True)
        self.assertIs(same_drawing((("a", "k", "l"), ("b", "k", "l")), (("a", "l", "k"), ("b", "k", "l"))), False)

    def test_nodes_one_to_one(self):
        one, other = (("a", "k", "l"), ("b", "m", "n")), (("a", "k", "l"), ("b", "l", "n"))
        self.assertEqual((same_drawing(one, other), same_drawing(other, one)), (False, False))
        one, other = (("a", "k", "l"), ("b", "k", "n")), (("a", "k", "l"), ("b", "l", "n"))
        self.assertEqual((same_drawing(one, other), same_drawing(other, one)), (False, False))
        self.assertIs(same_drawing((("a", "k", "k"),), (("a", "k", "l"),)), False)

    def test_other_parts(self):
        self.assertEqual((same_drawing(HOUSE, HOUSE[1:]), same_drawing(HOUSE[1:], HOUSE), same_drawing((), HOUSE)),
                         (False, False, False))
        self.assertIs(same_drawing((("a", "k", "l"),), (("b", "k", "l"),)), False)
        self.assertIs(same_drawing((), ()), True)


if __name__ == "__main__":
    unittest.main()
