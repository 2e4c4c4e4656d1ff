"""[7]: classes, pieces, turns and drawings that are the same but for the names of nodes and the joints of blocks."""

import unittest

from sameloops.errors import NoNode, NoPart, NoPiece, OtherParts
from sameloops.rings import cuts, rings
from sameloops.turns import (are_turns, classes_at, doors, drawn_alike, is_piece, turned, turned_all, turns_to)
from sameloops.wirings import blocks, nodes, parts, reversed_parts, same_drawing
from tests.support import (EIGHT, GATE, GATES, GROUPS, HOUSE, LOOP, LOOSE, NESTED, ONE, OTHER, ROUND, ROW_IN_GATE,
                           SIDE_BY_SIDE, SQUARE, THIRD, TURNED_SQUARE, WHEEL, WIRINGS, deep, listed, plain, scattered,
                           slow_rings, subsets)

ALL = WIRINGS + (ONE, OTHER, THIRD, TURNED_SQUARE, NESTED[:8], ROW_IN_GATE)


def slow_classes(wiring, block, node, other):
    """The classes by going over parts, one after another, but not through the two nodes."""
    ends = {part: {start, end} - {node, other} for part, start, end in wiring if part in block}
    found = []
    for part in block:
        near = {part}
        while True:
            more = {name for name in block if any(ends[name] & ends[one] for one in near)} | near
            if more == near:
                break
            near = more
        found.append(tuple(sorted(near)))
    return sorted(set(found))


def slow_doors(wiring, piece):
    """The two doors of a piece; None if it is none."""
    for block in blocks(wiring):
        if piece and set(piece) < set(block):
            mine = {node for part, *ends in wiring if part in piece for node in ends}
            its = {node for part, *ends in wiring if part in block and part not in piece for node in ends}
            return tuple(sorted(mine & its)) if len(mine & its) == 2 else None
    return None


class ExamplesTest(unittest.TestCase):

    def test_classes_and_doors(self):
        self.assertEqual((classes_at(SQUARE, "p", "r"), classes_at(SQUARE, "p", "q"), doors(SQUARE, ("a", "b")),
                          doors(SQUARE, ("a", "c", "d"))),
                         ([("a", "b"), ("c",), ("d",)], [("a",), ("b", "c", "d")], ("p", "r"), ("q", "r")))

    def test_turned(self):
        self.assertEqual((turned(SQUARE, ("a", "b")), turned(SQUARE, ("c",)) == SQUARE),
                         ((("a", "q", "r"), ("b", "p", "q"), ("c", "p", "r"), ("d", "p", "r")), True))
        all_about = reversed_parts(SQUARE, ("a", "b", "c", "d"))
        self.assertEqual((turned(SQUARE, ("a", "c", "d")), same_drawing(turned(SQUARE, ("a", "c", "d")), all_about)),
                         ((("a", "r", "p"), ("b", "q", "r"), ("c", "q", "p"), ("d", "q", "p")), True))

    def test_no_piece(self):
        with self.assertRaises(NoPiece):
            doors(SQUARE, ("b", "c"))

    def test_drawn_alike_and_turns(self):
        self.assertEqual((drawn_alike(SQUARE, TURNED_SQUARE), drawn_alike(turned(SQUARE, ("a", "b")), TURNED_SQUARE),
                          are_turns(SQUARE, TURNED_SQUARE, (("a", "b"),)), are_turns(SQUARE, TURNED_SQUARE, ())),
                         (False, True, True, False))
        self.assertEqual((turns_to(SQUARE, reversed_parts(SQUARE, ("b",))),
                          turned_all(SQUARE, (("a", "b"), ("a", "b"))) == SQUARE), (None, True))


class ClassesTest(unittest.TestCase):

    def test_against_the_slow_answer(self):
        for wiring in ALL + (WHEEL, NESTED, GATES):
            for node in nodes(wiring):
                for other in nodes(wiring):
                    if node != other:
                        both = [block for block in blocks(wiring)
                                if {node, other} <= {end for part, *ends in wiring if part in block for end in ends}]
                        self.assertLessEqual(len(both), 1)
                        told = slow_classes(wiring, both[0], node, other) if both else []
                        self.assertEqual(classes_at(wiring, node, other), told)

    def test_blocks(self):
        self.assertEqual((classes_at(EIGHT, "k", "l"), classes_at(EIGHT, "m", "o"), classes_at(EIGHT, "k", "o")),
                         ([("a",), ("b", "c")], [("d",), ("e", "f")], []))
        self.assertEqual((classes_at(LOOSE, "q", "p"), classes_at(LOOSE, "p", "r"), classes_at(GROUPS, "k", "y"),
                          classes_at(GROUPS, "q", "z")), ([("a",)], [], [], []))
        self.assertEqual(classes_at(SIDE_BY_SIDE, "v", "u"), [("a",), ("b",), ("c",), ("d",)])
        self.assertEqual((classes_at(GATE, "p", "q"), classes_at(WHEEL, "k", "m")),
                         ([("a",), ("b", "c", "d", "e", "f")], [tuple("abcdefgi")]))

    def test_no_node(self):
        for node, other, first in (("y", "z", "y"), ("p", "z", "z"), ("z", "p", "z"), ("a", "p", "a"), ("z", "y", "z")):
            with self.subTest(node=node, other=other), self.assertRaises(NoNode) as caught:
                classes_at(SQUARE, node, other)
            self.assertEqual(caught.exception.node, first)
        with self.assertRaises(NoNode) as caught:
            classes_at((), "k", "l")
        self.assertEqual(caught.exception.node, "k")


class PiecesTest(unittest.TestCase):

    def test_all_sets(self):
        for wiring in ALL + (WHEEL,):
            for piece in subsets(parts(wiring)):
                found = slow_doors(wiring, piece)
                self.assertIs(is_piece(wiring, piece), found is not None)
                if found is not None:
                    self.assertEqual(doors(wiring, piece), found)
                else:
                    self.assertRaises(NoPiece, doors, wiring, piece)
                    self.assertRaises(NoPiece, turned, wiring, piece)

    def test_kinds_of_pieces(self):
        cases = ((GATE, ("a",), ("p", "q")), (GATE, ("b", "c", "d", "e", "f"), ("p", "q")),
                 (GATE, ("a", "b", "c"), None),
                 (NESTED, ("d1", "d2", "d3"), ("q", "s")), (NESTED, ("d2", "d3"), ("q", "s")),
                 (NESTED, ("f2", "f3"), ("t", "u")), (NESTED, ("f1", "f2", "f3"), ("p", "u")),
                 (NESTED, ("f2", "f3", "f4"), ("s", "t")), (NESTED, ("f1", "f4"), None),
                 (GATES, ("f", "g", "h", "i", "j"), ("p", "s")), (GATES, ("a", "b", "c", "d", "e"), ("p", "s")),
                 (GATES, ("f", "g", "h"), None), (EIGHT, ("a", "b"), ("k", "m")), (EIGHT, ("a", "d"), None),
                 (EIGHT, ("a", "b", "c"), None), (SIDE_BY_SIDE, ("a", "d"), ("u", "v")), (HOUSE, ("d",), None),
                 (HOUSE, ("e",), None), (HOUSE, ("a", "b"), ("k", "n")), (GROUPS, ("a",), ("y", "z")),
                 (GROUPS, ("a", "b"), None), (SIDE_BY_SIDE, ("a", "b", "c", "d"), None), (GATE, (), None),
                 ((), (), None))
        for wiring, piece, found in cases:
            with self.subTest(piece=piece):
                self.assertIs(is_piece(wiring, piece), found is not None)
                if found is None:
                    self.assertRaises(NoPiece, doors, wiring, piece)
                else:
                    self.assertEqual(doors(wiring, piece), found)

    def test_wrong_things(self):
        for thing in (None, True, False, 0, 1, "", "a", "ab", [], ["a", "b"], ("b", "a"), ("a", "a"), ("a", "b", "b"),
                      (("a", "b"),), (("a",), ("b",)), ("a", ("b",)), (["a"], "b"), ("a", 1), (1, "a"), (1, 2),
                      ("a", None),
                      (True, False), ("a", True), ("z",), ("a", "b", "z"), ("p", "q"), ("",), ((),), ([],), {"a": "b"},
                      ("a", "b", ()), deep("a")):
            for wiring in (SQUARE, (), SIDE_BY_SIDE):
                with self.subTest(thing=thing):
                    self.assertIs(is_piece(wiring, thing), False)
        self.assertEqual((is_piece(SQUARE, ("a", "b")), is_piece(SIDE_BY_SIDE, ("a", "b"))), (True, True))
        self.assertIs(is_piece(SQUARE, tuple(["p" + str(number) for number in range(3000)])), False)

    def test_errors_in_order(self):
        for piece, first in ((("a", "y", "z"), "y"), (("z",), "z"), (("b", "c", "z"), "z"), (("aa", "b"), "aa")):
            for call in (doors, turned, lambda wiring, names: turned_all(wiring, (names,)),
                         lambda wiring, names: turned_all(wiring, (("a", "b"), names, ("b", "c"), ("y",)))):
                with self.subTest(piece=piece), self.assertRaises(NoPart) as caught:
                    call(SQUARE, piece)
                self.assertEqual(caught.exception.part, first)
        self.assertRaises(NoPiece, turned_all, SQUARE, (("a",), ("b", "c"), ("z",)))
        self.assertRaises(NoPiece, turned_all, SQUARE, ((),))


class TurnedTest(unittest.TestCase):

    def test_by_hand(self):
        self.assertEqual(turned(NESTED, ("f1", "f2", "f3")), NESTED[:7] + (
            ("f1", "t", "u"), ("f2", "p", "t"), ("f3", "t", "p"), ("f4", "s", "u")))
        self.assertEqual(turned(NESTED, ("d1", "d2", "d3")), NESTED[:3] + (
            ("d1", "q", "s"), ("d2", "v", "s"), ("d3", "v", "q")) + NESTED[6:])
        self.assertEqual(turned(GATES, ("f", "g", "h", "i", "j")), GATES[:5] + (
            ("f", "t", "s"), ("g", "u", "s"), ("h", "u", "t"), ("i", "p", "t"), ("j", "p", "u")))
        # Parts of other blocks that hang at nodes of the piece stay.
        self.assertEqual(turned(HOUSE, ("a", "b")), (("a", "m", "k"), ("b", "n", "m")) + HOUSE[2:])
        self.assertEqual(turned(HOUSE, ("a", "c", "f")), (
            ("a", "k", "n"), ("b", "m", "k"), ("c", "n", "m"), ("d", "m", "m"), ("e", "k", "x"), ("f", "m", "n")))

    def test_what_a_turn_leaves(self):
        for wiring in ALL + (WHEEL, NESTED, GATES):
            for piece in [piece for piece in subsets(parts(wiring))[:600] if is_piece(wiring, piece)]:
                other = turned(wiring, piece)
                self.assertEqual(rings(other), rings(wiring))
                self.assertEqual(turned(other, piece), wiring)
                self.assertEqual(doors(other, piece), doors(wiring, piece))
                self.assertEqual([item for item in other if item[0] not in piece],
                                 [item for item in wiring if item[0] not in piece])
                self.assertEqual(nodes(other), nodes(wiring))
                self.assertEqual(turned_all(wiring, (piece,)), other)

    def test_single_parts_and_all_but_one(self):
        for wiring in (SQUARE, GATE, ROUND, WHEEL, SIDE_BY_SIDE, NESTED, GATES):
            for part in parts(wiring):
                self.assertEqual(turned(wiring, (part,)), wiring)
                rest = tuple([name for name in parts(wiring) if name != part])
                self.assertTrue(same_drawing(turned(wiring, rest), reversed_parts(wiring, parts(wiring))))

    def test_several(self):
        self.assertEqual((turned_all(SQUARE, ()), turned_all((), ())), (SQUARE, ()))
        # The second one is a piece only behind the first turn.
        self.assertRaises(NoPiece, turned, ROUND, ("b", "d"))
        told = turned_all(ROUND, (("b", "c"), ("b", "d")))
        self.assertEqual(told, turned(turned(ROUND, ("b", "c")), ("b", "d")))
        self.assertEqual(plain(told)[1][1], plain(told)[3][2])
        self.assertRaises(NoPiece, turned_all, ROUND, (("b", "d"), ("b", "c")))


class DrawnAlikeTest(unittest.TestCase):

    def test_names_and_joints(self):
        joined_elsewhere = EIGHT[:3] + (("d", "k", "o"), ("e", "p", "o"), ("f", "p", "k"))
        apart = EIGHT[:3] + (("d", "u", "v"), ("e", "w", "v"), ("f", "w", "u"))
        other_block = EIGHT[:3] + (("d", "k", "o"), ("e", "p", "o"), ("f", "k", "p"))
        for one, other, told in ((EIGHT, joined_elsewhere, True), (EIGHT, apart, True), (EIGHT, other_block, False),
                                 (LOOSE, (("a", "x", "z"), ("b", "x", "y"), ("c", "x", "w")), True),
                                 (LOOSE, LOOP, False),
                                 (GATE, reversed_parts(GATE, parts(GATE)), False), (HOUSE, HOUSE[:5], False),
                                 (HOUSE, reversed_parts(HOUSE, ("d", "e")), True), ((), (), True), ((), HOUSE, False),
                                 (HOUSE, reversed_parts(HOUSE, ("c",)), False), (ONE, OTHER, False),
                                 (ONE, THIRD, False),
                                 ((("a", "k", "l"),), (("b", "k", "l"),), False),
                                 (LOOP, reversed_parts(LOOP, "abc"), False),
                                 ((("a", "k", "k"),), (("a", "k", "l"),), False),
                                 (GROUPS, reversed_parts(GROUPS, "ab"), True),
                                 # The same blocks, one of them a ring by itself in just one of the two.
                                 ((("a", "k", "l"), ("b", "m", "n")), (("a", "k", "l"), ("b", "n", "n")), False)):
            with self.subTest(one=one, other=other):
                self.assertIs(drawn_alike(one, other), told)
                self.assertIs(drawn_alike(other, one), told)

    def test_a_row_of_parts_in_another_order(self):
        row = (("a", "k", "l"), ("b", "l", "m"), ("c", "m", "k"))
        self.assertFalse(drawn_alike(row, (("a", "k", "l"), ("b", "m", "k"), ("c", "l", "m"))))
        self.assertTrue(drawn_alike(row, (("a", "m", "k"), ("b", "k", "l"), ("c", "l", "m"))))


class TurnsToTest(unittest.TestCase):

    def check(self, one, other):
        told = turns_to(one, other)
        self.assertIs(type(told), tuple)
        self.assertTrue(all(is_piece(turned_all(one, told[:at]), piece) for at, piece in enumerate(told)))
        self.assertTrue(drawn_alike(turned_all(one, told), other))
        self.assertIs(are_turns(one, other, told), True)
        self.assertEqual(are_turns(one, other, ()), drawn_alike(one, other))
        # Backwards the same turns lead back.
        self.assertIs(are_turns(other, one, told[::-1]), True)

    def test_alike_ones(self):
        for wiring in ALL + (WHEEL, NESTED, GATES):
            self.check(wiring, wiring)
            self.check(wiring, reversed_parts(wiring, parts(wiring)))
            for piece in [piece for piece in subsets(parts(wiring))[:600] if is_piece(wiring, piece)]:
                self.check(wiring, turned(wiring, piece))

    def test_other_names_and_joints(self):
        self.check(ONE, OTHER)
        self.check(SQUARE, TURNED_SQUARE)
        apart = (("a", "u", "v"), ("b", "x", "u"), ("c", "v", "x"), ("d", "g", "h"), ("e", "i", "g"), ("f", "i", "h"))
        self.assertEqual(slow_rings(apart), slow_rings((("a", "k", "l"), ("b", "m", "k"), ("c", "l", "m"), *apart[3:])))
        self.check((("a", "k", "l"), ("b", "l", "m"), ("c", "m", "k"), ("d", "k", "o"), ("e", "p", "k"),
                    ("f", "p", "o")),
                   apart)

    def test_many_turns(self):
        signs = "abcdefghijklmn"
        row = tuple([(sign, "n" + sign, "n" + after) for sign, after in zip(signs, signs[1:] + "a")])
        mixed = "aldkfbmgicnjeh"
        other = tuple(sorted([(sign, "n" + sign, "n" + after) for sign, after in zip(mixed, mixed[1:] + "a")]))
        self.check(row, other)
        # Seven pairs in a ring, and the same pairs in another order.
        pairs = tuple([(sign + digit, "n" + sign, "n" + after)
                       for sign, after in zip("abcdefg", "bcdefga") for digit in "01"])
        others = tuple(sorted([(sign + digit, "n" + sign, "n" + after)
                               for sign, after in zip("adgbfce", "dgbfcea") for digit in "01"]))
        self.check(pairs, others)
        self.check(NESTED, turned_all(NESTED, (("d1", "d2", "d3"), ("f1", "f2", "f3"), ("f1", "f4"),
                                               ("f2", "f3", "f4"))))

    def test_scattered_ones(self):
        for seed in range(60):
            wiring = scattered(8 + seed % 7, 3 + seed % 5, seed)
            other = reversed_parts(wiring, parts(wiring))
            for block in blocks(wiring):
                ends = nodes([item for item in wiring if item[0] in block])
                for node, there in zip(ends, ends[1:]):
                    found = classes_at(other, node, there)
                    if len(found) > 1:
                        other = turned(other, tuple(sorted(found[0] + found[-1])) if len(found) > 2 else found[0])
            self.check(wiring, other)

    def test_unlike_ones(self):
        for one, other in ((SQUARE, reversed_parts(SQUARE, ("b",))), (ONE, THIRD), (LOOP, LOOSE),
                           (GATE, reversed_parts(GATE, ("a",))), ((("a", "k", "k"),), (("a", "k", "l"),)),
                           (NESTED, reversed_parts(NESTED, ("f2",)))):
            with self.subTest(one=one, other=other):
                self.assertIsNone(turns_to(one, other))
                self.assertIs(are_turns(one, other, ()), False)

    def test_empty(self):
        self.assertEqual((turns_to((), ()), are_turns((), (), ())), ((), True))

    def test_other_parts(self):
        cases = ((ONE, ONE[:4], "e"), (ONE[:4], ONE, "e"), ((), ONE, "a"), (ONE[1:], ONE[:4], "a"), (LOOP, SQUARE, "d"))
        for one, other, part in cases:
            for call in (turns_to, lambda one, other: are_turns(one, other, ()),
                         lambda one, other: are_turns(one, other, None)):
                with self.subTest(one=one, other=other), self.assertRaises(OtherParts) as caught:
                    call(one, other)
                self.assertEqual(caught.exception.part, part)


class AreTurnsTest(unittest.TestCase):

    def test_right_and_nearly_right(self):
        other = turned(SQUARE, ("a", "b"))
        # The turn of c and d leaves them as they are; each other one of at least two parts exchanges a and b.
        for thing, told in (((("a", "b"),), True), ((("c", "d"),), False), ((("a", "b"), ("a", "b"), ("a", "b")), True),
                            ((("a",), ("a", "b"), ("b", "c", "d")), False), ((("a", "c", "d"),), True), ((), False),
                            ((("b", "c", "d"),), True), ((("a", "c", "d"), ("b",), ("c", "d")), True),
                            ((("a", "b"), ("b", "c")), False), ((("b", "c"), ("a", "b")), False)):
            with self.subTest(thing=thing):
                self.assertIs(are_turns(SQUARE, other, thing), told)

    def test_a_piece_only_when_its_turn_comes(self):
        other = turned_all(ROUND, (("b", "c"), ("b", "d")))
        self.assertEqual((are_turns(ROUND, other, (("b", "c"), ("b", "d"))),
                          are_turns(ROUND, other, (("b", "d"), ("b", "c")))),
                         (True, False))

    def test_wrong_things(self):
        other = turned(SQUARE, ("a", "b"))
        for thing in (None, True, False, 0, 1, "", "a", "ab", [], [("a", "b")], [["a", "b"]], (["a", "b"],), ("a", "b"),
                      (("b", "a"),), (("a", "a", "b"),), (("a", "b"), ()), ((), ("a", "b")), (("a", "b"), None),
                      (("a", "b"), ("z",)), (("a", "z"),), ((("a", "b"),),), (("a", ("b",)),), (("a", 1),), ((1, "a"),),
                      ((True,),), (("a", "b"), "c"), (("a", "b", "c", "d"),), deep("a")):
            with self.subTest(thing=thing):
                self.assertIs(are_turns(SQUARE, other, thing), False)
        self.assertIs(are_turns(listed(SQUARE), listed(other), (("a", "b"),)), True)
        self.assertIs(are_turns(listed(SQUARE), listed(other), [["a", "b"]]), False)

    def test_many_turns(self):
        self.assertIs(are_turns(SQUARE, SQUARE, (("a", "b"),) * 100), True)
        self.assertIs(are_turns(SQUARE, SQUARE, (("a", "b"),) * 101), False)


class CutsTest(unittest.TestCase):

    def test_turns_keep_the_cuts(self):
        for wiring in (SQUARE, GATE, HOUSE, EIGHT):
            for piece in [piece for piece in subsets(parts(wiring)) if is_piece(wiring, piece)]:
                self.assertEqual(cuts(turned(wiring, piece)), cuts(wiring))


if __name__ == "__main__":
    unittest.main()
