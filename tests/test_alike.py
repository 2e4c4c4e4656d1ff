"""[6]: alike wirings."""

import unittest
from itertools import combinations

from sameloops.alike import (alike, alike_if_bridged, alike_without, grouped, is_unlike, is_unlike_cut, least_unlike,
                             test_of, unlike, unlike_cut)
from sameloops.errors import NoRing, OtherParts
from sameloops.rings import cuts, is_cut, is_ring, rings
from sameloops.settle import completed, settles_all
from sameloops.turns import turned
from sameloops.wirings import bridged, opened, parts, reversed_parts
from tests.support import (EIGHT, FIVE, GATE, GATES, GROUPS, HOUSE, LOOP, LOOSE, NESTED, ONE, OTHER, ROUND,
                           SIDE_BY_SIDE, SQUARE, THIRD, TURNED_SQUARE, WHEEL, WIRINGS, deep, half_listed, holds_list,
                           listed, slow_cuts, slow_rings, subsets)

LOOPS = (("a", "k", "k"), ("b", "l", "m"))
PAIRED = (ONE, OTHER, THIRD, reversed_parts(ONE, ("a",)), reversed_parts(THIRD, ("b", "e")))
MANY = tuple(sorted([(one + other, one, other) for one in "klmnopqr" for other in "klmnopqr" if one < other]))[:24]
TWO_PARTS = ((("a", "k", "l"), ("b", "k", "l")), (("a", "k", "l"), ("b", "l", "k")), (("a", "k", "l"), ("b", "l", "m")),
             (("a", "k", "k"), ("b", "l", "m")), (("a", "k", "l"), ("b", "m", "m")), (("a", "k", "k"), ("b", "k", "k")))
# What makes a right pair a wrong thing.
SPOILT = (lambda pair: list(pair), lambda pair: listed(pair), lambda pair: (pair[0], list(pair[1])),
          lambda pair: (pair[0], tuple(listed(pair[1]))), lambda pair: (bool(pair[0]), pair[1]),
          lambda pair: (str(pair[0]), pair[1]), lambda pair: (None, pair[1]), lambda pair: (pair[0] + 2, pair[1]),
          lambda pair: (pair[0] - 2, pair[1]), lambda pair: ((pair[0],), pair[1]), lambda pair: (pair,),
          lambda pair: pair[::-1], lambda pair: pair + ((),), lambda pair: pair[:1], lambda pair: pair[1],
          lambda pair: (pair[0], (pair[1],)), lambda pair: (pair[0], pair[1][::-1]),
          lambda pair: (pair[0], pair[1][1:]),
          lambda pair: (pair[0], pair[1] + pair[1][-1:]), lambda pair: (pair[0], pair[1] + (("z", "along"),)),
          lambda pair: (pair[0], tuple([(part, True) for part, _ in pair[1]])),
          lambda pair: (pair[0], tuple([part for part, _ in pair[1]])))
OTHER_KINDS = (None, True, False, 0, 1, "", "a", (), [], ((),), (0,), (0, ()), (1, None), (0, "ab"), (True, True),
               (0, 1),
               ("a", "along"), deep("a"))


def fewest(one, other, taking):
    """The least of the smallest sets of parts behind whose taking out the RINGs are the same."""
    fitting = [names for names in subsets(parts(one))
               if slow_rings(taking(one, names)) == slow_rings(taking(other, names))]
    return min(fitting, key=lambda names: (len(names), names))


class ExamplesTest(unittest.TestCase):

    def test_alike_and_unlike(self):
        self.assertEqual((alike(ONE, OTHER), alike(ONE, THIRD), alike(ONE, ONE[:4]), unlike(ONE, OTHER),
                          least_unlike(ONE, THIRD)),
                         (True, False, False, None, (0, (("b", "along"), ("e", "against")))))
        square = tuple([(part, "along") for part in "abcd"])
        self.assertEqual((is_unlike(ONE, THIRD, (1, (("c", "along"), ("e", "against")))),
                          is_unlike(ONE, THIRD, (0, square))), (True, False))
        self.assertEqual((is_unlike_cut(ONE, THIRD, (0, (("a", "along"), ("c", "against")))), unlike_cut(ONE, OTHER)),
                         (True, None))

    def test_rule_row(self):
        self.assertEqual(test_of(ONE, (("b", "along"), ("e", "against"))), (
            ("a", ("open",)), ("b", ("source", 1)), ("c", ("open",)), ("d", ("open",)), ("e", ("resistor", 1))))

    def test_grouped_and_fewest(self):
        self.assertEqual((grouped((ONE, THIRD, OTHER, ONE[:4])), alike_without(ONE, THIRD), alike_without(ONE, OTHER),
                          alike_if_bridged(ONE, THIRD)), (((0, 2), (1,), (3,)), ("e",), (), ("b", "c")))

    def test_error(self):
        with self.assertRaises(OtherParts) as caught:
            unlike(ONE, ONE[:4])
        self.assertEqual(caught.exception.part, "e")


class AlikeTest(unittest.TestCase):

    def test_what_keeps_them_alike(self):
        pairs = ((SQUARE, TURNED_SQUARE), (SQUARE, turned(SQUARE, ("a", "b"))),
                 (HOUSE, reversed_parts(HOUSE, ("d", "e"))),
                 (GATE, reversed_parts(GATE, parts(GATE))), ((), ()), (ONE, OTHER),
                 (EIGHT, (("a", "k", "l"), ("b", "l", "x"), ("c", "x", "k"), ("d", "m", "o"), ("e", "p", "o"),
                          ("f", "p", "m"))),
                 (EIGHT, (("a", "k", "l"), ("b", "l", "m"), ("c", "m", "k"), ("d", "l", "o"), ("e", "p", "o"),
                          ("f", "p", "l"))),
                 (LOOSE, (("a", "p", "q"), ("b", "p", "r"), ("c", "s", "p"))),
                 (LOOPS, (("a", "b", "b"), ("b", "b", "a"))),
                 (ROUND, tuple([(part, "n" + part, "n" + after) for part, after in zip("abcdefg", "cgefbad")])))
        for one, other in pairs:
            with self.subTest(one=one, other=other):
                self.assertIs(alike(one, other), True)
                self.assertIs(alike(other, one), True)
                self.assertEqual((unlike(one, other), unlike_cut(one, other)), (None, None))
                self.assertEqual((alike_without(one[:8], one[:8]), alike_if_bridged(other, other)), ((), ()))

    def test_what_tells_them_apart(self):
        pairs = ((SQUARE, reversed_parts(SQUARE, ("b",))), (GATE, reversed_parts(GATE, ("a",))), (ONE, THIRD),
                 (LOOPS, (("a", "k", "l"), ("b", "l", "m"))), (HOUSE, reversed_parts(HOUSE, ("a", "b"))),
                 (LOOP, LOOSE), (SIDE_BY_SIDE, reversed_parts(SIDE_BY_SIDE, ("c",))),
                 (FIVE, reversed_parts(FIVE, ("mn",))), (WHEEL, reversed_parts(WHEEL, ("i",))),
                 (GATE, (("a", "p", "q"), ("b", "p", "r"), ("c", "q", "s"), ("d", "q", "r"), ("e", "r", "s"),
                         ("f", "p", "s"))))
        for one, other in pairs:
            with self.subTest(one=one, other=other):
                self.assertIs(alike(one, other), False)
                self.assertIs(alike(other, one), False)

    def test_other_parts(self):
        self.assertEqual((alike(ONE, ONE[1:]), alike((), ONE), alike(ONE, ()), alike(SQUARE, LOOSE)), (False,) * 4)
        self.assertIs(alike((("a", "k", "l"),), (("b", "k", "l"),)), False)

    def test_unlike_tells_a_right_pair(self):
        for one in TWO_PARTS + PAIRED + (GATE, reversed_parts(GATE, ("d",)), MANY, reversed_parts(MANY, ("kl", "mn"))):
            for other in TWO_PARTS + PAIRED + (GATE, reversed_parts(GATE, ("d",)), MANY, reversed_parts(MANY, ("np",))):
                if parts(one) == parts(other):
                    told, cut = unlike(one, other), unlike_cut(one, other)
                    self.assertEqual((told is None, cut is None), (alike(one, other),) * 2)
                    if told is not None:
                        self.check_pair(one, other, told, is_ring, is_unlike)
                        self.check_pair(one, other, cut, is_cut, is_unlike_cut)

    def check_pair(self, one, other, pair, belongs, check):
        self.assertIs(type(pair), tuple)
        self.assertIs(type(pair[0]), int)
        both = (one, other)
        self.assertTrue(belongs(both[pair[0]], pair[1]))
        self.assertFalse(belongs(both[1 - pair[0]], pair[1]))
        self.assertIs(check(one, other, pair), True)
        self.assertIs(check(other, one, pair), False)
        self.assertIs(check(other, one, (1 - pair[0], pair[1])), True)
        self.assertIs(check(one, one, pair), False)

    def test_only_one_has_a_ring_that_the_other_lacks(self):
        # All RINGs of the first are RINGs of the second, and all CUTs of the second are CUTs of the first.
        fewer, more = (("a", "k", "l"), ("b", "l", "m")), (("a", "k", "l"), ("b", "k", "l"))
        self.assertEqual((unlike(fewer, more), unlike(more, fewer)),
                         ((1, (("a", "along"), ("b", "against"))), (0, (("a", "along"), ("b", "against")))))
        # ("a",) and ("b",) are CUTs of the first, both together one of the second.
        self.assertIn(unlike_cut(fewer, more), [(0, (("a", "along"),)), (0, (("b", "along"),)),
                                                (1, (("a", "along"), ("b", "along")))])
        loop, bridge = (("a", "k", "k"),), (("a", "k", "l"),)
        self.assertEqual((unlike(loop, bridge), unlike(bridge, loop), unlike_cut(loop, bridge),
                          unlike_cut(bridge, loop)),
                         ((0, (("a", "along"),)), (1, (("a", "along"),)), (1, (("a", "along"),)),
                          (0, (("a", "along"),))))


class IsUnlikeTest(unittest.TestCase):

    def test_just_the_right_pairs(self):
        for one in PAIRED + TWO_PARTS:
            for other in PAIRED + TWO_PARTS:
                if parts(one) == parts(other):
                    self.check(one, other, is_unlike, slow_rings(one), slow_rings(other))
                    self.check(one, other, is_unlike_cut, slow_cuts(one), slow_cuts(other))

    def check(self, one, other, is_told, mine, its):
        for number, thing in [(number, thing) for number in (0, 1) for thing in mine + its]:
            right = thing in (mine, its)[number] and thing not in (mine, its)[1 - number]
            self.assertIs(is_told(one, other, (number, thing)), right)
            if right:
                for spoilt in [spoil((number, thing)) for spoil in SPOILT]:
                    # A row of one part is the same backwards; True is not the same as 1 here.
                    if repr(spoilt) != repr((number, thing)):
                        self.assertIs(is_told(one, other, spoilt), False, spoilt)

    def test_the_same_parts_with_other_directions(self):
        one, other = LOOP, reversed_parts(LOOP, ("b",))
        round_one = (("a", "along"), ("b", "along"), ("c", "along"))
        round_other = (("a", "along"), ("b", "against"), ("c", "along"))
        told = [is_unlike(one, other, (number, ring)) for number in (0, 1) for ring in (round_one, round_other)]
        self.assertEqual(told, [True, False, False, True])

    def test_other_kinds(self):
        for check in (is_unlike, is_unlike_cut):
            for thing in OTHER_KINDS:
                for one, other in ((ONE, THIRD), (ONE, ONE), ((), ())):
                    with self.subTest(check.__name__, thing=thing):
                        self.assertIs(check(one, other, thing), False)


class LeastTest(unittest.TestCase):

    def test_fewest_parts_then_least(self):
        for one in PAIRED + TWO_PARTS + (GATE, reversed_parts(GATE, ("d",)), reversed_parts(GATE, ("a", "f"))):
            for other in PAIRED + TWO_PARTS + (GATE, reversed_parts(GATE, ("e",))):
                if parts(one) == parts(other):
                    mine, its = slow_rings(one), slow_rings(other)
                    pairs = [(0, ring) for ring in mine if ring not in its]
                    pairs += [(1, ring) for ring in its if ring not in mine]
                    least = min(pairs, key=lambda pair: (len(pair[1]), pair[1]), default=None)
                    self.assertEqual(least_unlike(one, other), least)

    def test_order(self):
        # The ring of the second has the lesser parts, that of the first has fewer.
        one = (("a", "k", "l"), ("b", "l", "m"), ("c", "m", "l"))
        other = (("a", "k", "l"), ("b", "l", "m"), ("c", "m", "k"))
        self.assertEqual(least_unlike(one, other), (0, (("b", "along"), ("c", "along"))))
        self.assertEqual(least_unlike(other, one), (1, (("b", "along"), ("c", "along"))))
        # As many parts each: "against" is less than "along", whichever of the two has it.
        pair, turn = (("a", "k", "l"), ("b", "k", "l")), (("a", "k", "l"), ("b", "l", "k"))
        self.assertEqual((least_unlike(pair, turn), least_unlike(turn, pair)),
                         ((0, (("a", "along"), ("b", "against"))), (1, (("a", "along"), ("b", "against")))))

    def test_ten_parts(self):
        self.assertEqual(least_unlike(FIVE, reversed_parts(FIVE, ("no",))),
                         (1, (("kn", "along"), ("ko", "against"), ("no", "against"))))
        self.assertIsNone(least_unlike(GATES, GATES))
        self.assertEqual(least_unlike(GATES, turned(GATES, ("f", "g", "h", "i", "j"))), None)


class OtherPartsTest(unittest.TestCase):

    def test_the_least_part_that_only_one_has(self):
        cases = ((ONE, ONE[:4], "e"), (ONE[:4], ONE, "e"), (ONE, (), "a"), ((), ONE, "a"), (ONE[1:], ONE[:4], "a"),
                 (ONE[:1] + ONE[2:], ONE[1:], "a"), (ONE[1:], ONE[:1] + ONE[2:], "a"),
                 (ONE[:2] + ONE[3:], ONE[:3], "c"))
        calls = (unlike, least_unlike, unlike_cut, alike_without, alike_if_bridged,
                 lambda one, other: is_unlike(one, other, None), lambda one, other: is_unlike_cut(one, other, ()),
                 lambda one, other: is_unlike(one, other, (0, (("b", "along"), ("e", "against")))))
        for one, other, part in cases:
            for call in calls:
                with self.subTest(one=one, other=other), self.assertRaises(OtherParts) as caught:
                    call(one, other)
                self.assertEqual(caught.exception.part, part)

    def test_lists(self):
        with self.assertRaises(OtherParts) as caught:
            unlike(listed(ONE), listed(ONE[:2]))
        self.assertEqual(caught.exception.part, "c")


class TestOfTest(unittest.TestCase):

    def test_rules(self):
        for wiring in WIRINGS + (ONE, NESTED):
            for ring in rings(wiring):
                told = test_of(wiring, ring)
                self.assertEqual([part for part, _ in told], list(parts(wiring)))
                rules = dict(told)
                self.assertEqual([rules[part] for part, _ in ring],
                                 [("source", 1)] + [("resistor", 1)] * (len(ring) - 1))
                self.assertEqual({rules[part] for part in rules if part not in dict(ring)} - {("open",)}, set())

    def test_what_the_currents_show(self):
        for one in PAIRED:
            for other in PAIRED:
                for ring in rings(one):
                    # A source tells its current, an open part has none: that settles the current in the ring.
                    rules = test_of(one, ring)
                    known = [part for part, rule in rules if rule[0] != "resistor"]
                    amounts = [1 if rule[0] == "source" else 0 for part, rule in rules if rule[0] != "resistor"]
                    signs = tuple([{"along": 1, "against": -1}.get(dict(ring).get(part), 0) for part in parts(one)])
                    self.assertTrue(settles_all(one, "current", known))
                    self.assertEqual(completed(other, "current", known, amounts) == signs, is_ring(other, ring))

    def test_single_part(self):
        self.assertEqual(test_of(LOOPS, (("a", "along"),)), (("a", ("source", 1)), ("b", ("open",))))

    def test_no_ring(self):
        ring = (("b", "along"), ("e", "against"))
        things = [(), None, 0, True, "b", "ring", ring[::-1], ring[:1], ring + ring[-1:],
                  (("b", "along"), ("e", "along")),
                  (("b", "against"), ("e", "along")), (("b", "along"), ("c", "along")), (ring,), (("b",), ("e",)),
                  ("b", "e"), (("b", 1), ("e", -1)), (("b", "along"), ("z", "against")), [[]], [None],
                  (("b", True), ("e", False)), deep(0)]
        for thing in things:
            for told in [thing, *half_listed(thing)]:
                with self.subTest(thing=told), self.assertRaises(NoRing):
                    test_of(ONE, told)
        with self.assertRaises(NoRing):
            test_of((), ring)
        with self.assertRaises(NoRing):
            test_of(THIRD, ring)

    def test_ring_with_lists(self):
        for wiring in WIRINGS + (ONE, NESTED):
            for ring in rings(wiring):
                rules = test_of(wiring, ring)
                for told in half_listed(ring):
                    kept = repr(told)
                    with self.subTest(ring=kept):
                        self.assertEqual(test_of(wiring, told), rules)
                        self.assertEqual(test_of(ring=told, wiring=listed(wiring)), rules)
                        self.assertFalse(holds_list(test_of(wiring, told)))
                        self.assertEqual((repr(told), is_ring(wiring, told)), (kept, False))


class GroupedTest(unittest.TestCase):

    def test_groups(self):
        self.assertEqual((grouped(()), grouped(((),)), grouped(((), (), ONE))), ((), ((0,),), ((0, 1), (2,))))
        self.assertEqual(grouped((THIRD, ONE, SQUARE, OTHER, TURNED_SQUARE, THIRD)), ((0, 5), (1, 3), (2, 4)))
        self.assertEqual(grouped((LOOSE, LOOP, LOOSE[:2], reversed_parts(LOOSE, ("b",)))), ((0, 3), (1,), (2,)))

    def test_same_rings_of_other_parts(self):
        self.assertEqual(grouped(((("a", "k", "l"),), (("b", "k", "l"),), (("a", "l", "k"),))), ((0, 2), (1,)))
        self.assertEqual(grouped(((("a", "k", "k"),), (("a", "k", "k"), ("b", "k", "l")))), ((0,), (1,)))

    def test_twelve(self):
        pieces = (("a", "b"), ("c", "d"), ("b",), ("a", "c", "d"), ("b", "c", "d"), ("d",))
        wirings = tuple([turned(SQUARE, piece) for piece in pieces]
                        + [reversed_parts(SQUARE, (part,)) for part in "abcdaa"])
        self.assertEqual(grouped(wirings), ((0, 1, 2, 3, 4, 5), (6, 10, 11), (7,), (8,), (9,)))


class FewestTest(unittest.TestCase):

    def test_against_all_sets(self):
        for one in PAIRED + TWO_PARTS:
            for other in PAIRED + TWO_PARTS:
                if parts(one) == parts(other):
                    self.assertEqual(alike_without(one, other), fewest(one, other, opened))
                    self.assertEqual(alike_if_bridged(one, other), fewest(one, other, bridged))

    def test_eight_parts(self):
        one, other = FIVE[:8], reversed_parts(FIVE[:8], ("km", "lo"))
        self.assertEqual((alike_without(one, other), alike_if_bridged(one, other)),
                         (fewest(one, other, opened), fewest(one, other, bridged)))
        self.assertEqual(alike_without(one, other), ("km", "ko"))
        self.assertEqual((alike_without(WHEEL, WHEEL), alike_if_bridged(WHEEL, reversed_parts(WHEEL, parts(WHEEL)))),
                         ((), ()))

    def test_all_parts_and_least_of_several(self):
        self.assertEqual((alike_without((), ()), alike_if_bridged((), ())), ((), ()))
        self.assertEqual((alike_without(TWO_PARTS[0], TWO_PARTS[1]), alike_if_bridged(TWO_PARTS[0], TWO_PARTS[1])),
                         (("a",), ("a",)))
        self.assertEqual((alike_without(*((("a", "k", "k"),), (("a", "k", "l"),))),
                          alike_if_bridged(*((("a", "k", "k"),), (("a", "k", "l"),)))), (("a",), ("a",)))
        loops, bridges = TWO_PARTS[5], TWO_PARTS[2]
        self.assertEqual((alike_without(loops, bridges), alike_if_bridged(loops, bridges)), (("a", "b"), ("a", "b")))

    def test_all_pairs_of_a_set_are_looked_at(self):
        for names in combinations("abcd", 2):
            self.assertEqual(alike_without(GROUPS[:4], reversed_parts(GROUPS[:4], names)),
                             () if names in (("a", "b"), ("c", "d")) else ("a",))


class TablesTest(unittest.TestCase):

    def test_alike_is_the_same_for_cuts(self):
        for one in PAIRED + TWO_PARTS:
            for other in PAIRED + TWO_PARTS:
                if parts(one) == parts(other):
                    self.assertEqual(alike(one, other), cuts(one) == cuts(other))


if __name__ == "__main__":
    unittest.main()
