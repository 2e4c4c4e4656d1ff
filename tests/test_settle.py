"""[9]: what is settled, with the sum, and amounts at known parts."""

import unittest

from sameloops.errors import NoPart
from sameloops.rings import heights, is_cut, is_drops, is_ring, is_stream
from sameloops.settle import (always_zero, blinding, completed, contradiction, equal, is_sum, mates, names_one_wrong,
                              possible, settled, settles_all, shows_one_wrong, spare, sum_for, suspects, unsettled)
from sameloops.turns import turned
from sameloops.wirings import nodes, parts, reversed_parts
from tests.support import (EIGHT, FIVE, GATE, GROUPS, HOUSE, LOOP, LOOSE, NESTED, ONE, OTHER, ROUND, SIDE_BY_SIDE,
                           SQUARE, WHEEL, WIRINGS, deep, listed, scattered, subsets)

KINDS = ("current", "voltage")
LARGE = 10 ** 40
MANY = tuple(sorted([(one + other, one, other) for one in "klmnopqr" for other in "klmnopqr" if one < other]))[:24]
# Each function that takes known, with other arguments behind it.
WITH_KNOWN = ((settled,), (settles_all,), (sum_for, "a"), (unsettled, "a"), (spare,), (blinding,),
              (possible, (1, 2, 3)),
              (completed, (1, 2, 3)), (contradiction, (1, 2, 3)), (suspects, (1, 2, 3)), (shows_one_wrong,),
              (names_one_wrong,))


class ExamplesTest(unittest.TestCase):

    def test_settled(self):
        self.assertEqual((settled(HOUSE, "current", ("a",)), settled(HOUSE, "voltage", ("a", "b")),
                          always_zero(HOUSE, "current"), always_zero(HOUSE, "voltage")),
                         (("a", "b", "e"), ("a", "b", "c", "d", "f"), ("e",), ("d",)))
        with self.assertRaises(NoPart) as caught:
            settled(HOUSE, "current", ("a", "z"))
        self.assertEqual(caught.exception.part, "z")

    def test_sums(self):
        self.assertEqual((sum_for(HOUSE, "current", ("a", "c"), "f"), sum_for(HOUSE, "current", ("a",), "f"),
                          sum_for(HOUSE, "current", (), "e"), sum_for(HOUSE, "voltage", ("a", "b"), "c")),
                         ((("a", -1), ("c", 1)), None, (), (("a", -1), ("b", -1))))
        self.assertEqual((unsettled(HOUSE, "current", ("a",), "f"), unsettled(HOUSE, "voltage", ("a",), "b"),
                          is_sum(HOUSE, "current", "f", (("b", -1), ("c", 1)))),
                         ((("c", "along"), ("f", "along")), (("b", "along"), ("c", "against"), ("f", "along")), True))

    def test_equal(self):
        self.assertEqual((equal(HOUSE, "current", "a", "b"), equal(HOUSE, "voltage", "c", "f"),
                          equal(HOUSE, "current", "c", "f"), mates(HOUSE, "current"), mates(HOUSE, "voltage")),
                         (1, -1, None, [("a", "b")], [("c", "f")]))

    def test_amounts(self):
        self.assertEqual((possible(HOUSE, "current", ("a", "b"), (3, 4)),
                          contradiction(HOUSE, "current", ("a", "b"), (3, 4)),
                          suspects(HOUSE, "current", ("a", "b", "c", "f"), (3, 4, 1, -2))),
                         (False, (("a", "along"), ("b", "against")), ("b",)))
        all_parts = ("a", "b", "c")
        self.assertEqual((completed(LOOP, "current", ("b",), (7,)), completed(LOOP, "voltage", ("a", "b"), (2, 5)),
                          names_one_wrong(LOOP, "current", all_parts), names_one_wrong(LOOP, "voltage", all_parts)),
                         ((7, 7, 7), (2, 5, -7), True, False))


class NoPartTest(unittest.TestCase):

    def check(self, call, arguments, part):
        with self.subTest(call.__name__, arguments=arguments), self.assertRaises(NoPart) as caught:
            call(HOUSE, *arguments)
        self.assertEqual(caught.exception.part, part)

    def test_first_of_known(self):
        for call, *rest in WITH_KNOWN:
            for what in KINDS:
                for known, part in ((("a", "y", "z"), "y"), (("aa", "b", "z"), "aa"), (("a", "b", "z"), "z"),
                                    (("k",), "k")):
                    self.check(call, (what, known, *rest), part)

    def test_known_ahead_of_the_part(self):
        for call in (sum_for, unsettled):
            for what in KINDS:
                self.check(call, (what, ("a", "y"), "z"), "y")
                self.check(call, (what, ("z",), "a"), "z")
                self.check(call, (what, ("a", "b"), "z"), "z")
                self.check(call, (what, (), "k"), "k")

    def test_equal_and_is_sum(self):
        for what in KINDS:
            self.check(equal, (what, "z", "y"), "z")
            self.check(equal, (what, "a", "y"), "y")
            self.check(equal, (what, "k", "k"), "k")
            for thing in ((), None, (("a", 1),), (("z", 1),)):
                self.check(is_sum, (what, "z", thing), "z")


class SettledTest(unittest.TestCase):

    def test_none_and_all(self):
        for wiring in WIRINGS:
            for what in KINDS:
                self.assertEqual(settled(wiring, what, parts(wiring)), parts(wiring))
                self.assertEqual(settled(wiring, what, ()), always_zero(wiring, what))
                self.assertIs(settles_all(wiring, what, parts(wiring)), True)
                self.assertEqual(settles_all(wiring, what, ()), always_zero(wiring, what) == parts(wiring))

    def test_by_hand(self):
        for wiring, what, known, told in (
                (GATE, "current", ("a",), ("a",)), (GATE, "current", ("a", "b"), ("a", "b", "f")),
                (GATE, "current", ("a", "b", "c"), tuple("abcdef")), (GATE, "voltage", ("a", "b"), ("a", "b", "c")),
                (GATE, "voltage", ("a", "e"), ("a", "e")), (GATE, "voltage", ("a", "d", "f"), ("a", "d", "f")),
                (ROUND, "current", ("e",), parts(ROUND)), (ROUND, "voltage", tuple("abcde"), tuple("abcde")),
                (ROUND, "voltage", tuple("abcdef"), parts(ROUND)), (SIDE_BY_SIDE, "voltage", ("c",), tuple("abcd")),
                (SIDE_BY_SIDE, "current", ("a", "b"), ("a", "b")), (LOOSE, "current", (), ("a", "b", "c")),
                (LOOSE, "voltage", ("b",), ("b",)), (EIGHT, "current", ("b",), ("a", "b", "c")),
                (GROUPS, "current", ("a",), ("a", "b", "c", "e")),
                (GROUPS, "voltage", ("b", "e"), ("a", "b", "d", "e"))):
            with self.subTest(wiring=wiring, what=what, known=known):
                self.assertEqual(settled(wiring, what, known), told)
                self.assertEqual(settles_all(wiring, what, known), told == parts(wiring))

    def test_alike_ones_tell_the_same(self):
        for one, other in ((ONE, OTHER), (SQUARE, turned(SQUARE, ("a", "b"))),
                           (GATE, reversed_parts(GATE, parts(GATE)))):
            for what in KINDS:
                for known in subsets(parts(one)):
                    self.assertEqual(settled(one, what, known), settled(other, what, known))
                    self.assertEqual(spare(one, what, known), spare(other, what, known))
                    for part in parts(one):
                        told = sum_for(one, what, known, part)
                        self.assertTrue(told is None or is_sum(other, what, part, told))


class SumsTest(unittest.TestCase):

    def test_always_zero_or_known(self):
        self.assertEqual((sum_for(HOUSE, "current", ("e",), "e"), sum_for(HOUSE, "voltage", ("d",), "d"),
                          sum_for(HOUSE, "current", ("d",), "d"), sum_for(HOUSE, "voltage", ("e",), "e"),
                          sum_for(HOUSE, "current", (), "d"), sum_for(HOUSE, "voltage", (), "e")),
                         ((), (), (("d", 1),), (("e", 1),), None, None))

    def test_as_few_as_can_be(self):
        # f is told by c alone, or by a and b.
        self.assertEqual((sum_for(HOUSE, "voltage", ("a", "b", "c"), "f"), sum_for(HOUSE, "voltage", ("a", "b"), "f"),
                          sum_for(HOUSE, "voltage", ("a", "b", "f"), "f")),
                         ((("c", -1),), (("a", 1), ("b", 1)), (("f", 1),)))
        self.assertEqual((sum_for(HOUSE, "current", ("a", "b", "c", "f"), "a"),
                          sum_for(HOUSE, "current", ("b", "c", "f"), "a"),
                          sum_for(HOUSE, "current", ("c", "f"), "a")),
                         ((("a", 1),), (("b", 1),), (("c", 1), ("f", -1))))
        # At h all of b, c and d come together with a; behind k lie just e and i.
        self.assertEqual(sum_for(WHEEL, "current", ("b", "c", "d", "e", "i"), "a"), (("e", 1), ("i", -1)))
        self.assertEqual(sum_for(WHEEL, "current", ("b", "c", "d"), "a"), (("b", -1), ("c", 1), ("d", -1)))
        self.assertEqual(sum_for(WHEEL, "voltage", ("b", "e", "f", "g", "i", "d"), "a"), (("b", 1), ("e", -1)))

    def test_many_parts(self):
        known = tuple([part for part in parts(MANY) if part != "kl"])
        self.assertEqual(len(sum_for(MANY, "voltage", known, "kl")), 2)
        self.assertEqual(sum_for(MANY, "voltage", ("km", "lo", "mn", "no"), "kl"),
                         (("km", 1), ("lo", -1), ("mn", 1), ("no", 1)))
        told = sum_for(MANY, "current", known, "kl")
        self.assertIs(is_sum(MANY, "current", "kl", told), True)
        self.assertEqual(len(told), min([len([part for part in known if node in part]) for node in "kl"]))

    def test_scattered_ones(self):
        for seed in range(40):
            wiring = scattered(24, 5 + seed % 5, seed)
            known, part = parts(wiring)[5:], parts(wiring)[seed % 4]
            _, start, end = wiring[seed % 4]
            # The part itself and the fewest of known lead out of a half of the nodes, and no other unknown part.
            leaving = [[name for name, tail, head in wiring if name != part and (tail in half) != (head in half)]
                       for half in subsets(nodes(wiring)) if start in half and end not in half]
            sizes = [len(names) for names in leaving if set(names) <= set(known)]
            told = sum_for(wiring, "current", known, part)
            self.assertEqual(None if told is None else len(told), min(sizes, default=None))
            self.assertTrue(told is None or is_sum(wiring, "current", part, told))

    def test_unsettled(self):
        for wiring, what, known, part in ((GATE, "current", ("a", "c"), "f"), (GATE, "voltage", ("a", "c"), "f"),
                                          (NESTED, "current", ("d1", "f2"), "f1"),
                                          (NESTED, "voltage", ("a", "b"), "f4"),
                                          (HOUSE, "current", (), "d"), (HOUSE, "voltage", ("a", "b"), "e"),
                                          (MANY, "current", parts(MANY)[:9], "nq"),
                                          (MANY, "voltage", parts(MANY)[:4], "nq")):
            with self.subTest(known=known, part=part):
                told = unsettled(wiring, what, known, part)
                self.assertTrue((is_ring if what == "current" else is_cut)(wiring, told))
                self.assertIn(part, dict(told))
                self.assertFalse(set(dict(told)) & set(known))
        self.assertEqual((unsettled(HOUSE, "current", (), "e"), unsettled(HOUSE, "voltage", (), "d"),
                          unsettled(HOUSE, "current", ("a",), "b"), unsettled(LOOP, "voltage", ("a", "b"), "c")),
                         (None,) * 4)
        self.assertEqual((unsettled(HOUSE, "current", (), "d"), unsettled(HOUSE, "voltage", parts(HOUSE)[:4], "e")),
                         ((("d", "along"),), (("e", "along"),)))


class IsSumTest(unittest.TestCase):

    def test_right_ones(self):
        for what, part, thing in (("current", "f", (("a", -1), ("c", 1))), ("current", "f", (("b", -1), ("c", 1))),
                                  ("current", "f", (("f", 1),)), ("current", "e", ()), ("current", "e", (("e", 1),)),
                                  ("current", "e", (("e", -1),)), ("current", "f", (("e", -1), ("f", 1))),
                                  ("current", "a", (("b", 1),)), ("voltage", "c", (("a", -1), ("b", -1))),
                                  ("voltage", "c", (("f", -1),)), ("voltage", "d", ()), ("voltage", "d", (("d", -1),)),
                                  ("voltage", "c", (("a", -1), ("b", -1), ("d", 1))),
                                  ("current", "d", (("d", 1), ("e", 1))),
                                  ("voltage", "a", (("b", -1), ("f", 1))), ("current", "c", (("a", 1), ("f", 1)))):
            with self.subTest(what=what, part=part, thing=thing):
                self.assertIs(is_sum(HOUSE, what, part, thing), True)
                self.assertIs(is_sum(HOUSE, KINDS[what == "current"], part, thing), thing == ((part, 1),))

    def test_nearly_right_ones(self):
        for thing in ((("a", -1),), (("c", 1),), (("a", 1), ("c", 1)), (("a", -1), ("c", -1)), (("c", 1), ("a", -1)),
                      (("a", -1), ("b", -1), ("c", 1)), (("a", -1), ("a", -1), ("c", 1)), (("a", -1), ("c", True)),
                      (("a", -1), ("c", "1")), (("a", -1), ("c", None)), (("a", -1), ("c", 2)), (("a", -1), ("c", 0)),
                      (("a", -1), ("c", 1), ("d", 0)), (("a", -1), ("c", 1), ("z", 1)), (("a", -1), ("c", 1), ()),
                      (("a", -1), ("c",)), (("a", -1), ("c", 1, 1)), (("a", -1), ["c", 1]), [("a", -1), ("c", 1)],
                      [["a", -1], ["c", 1]], (("a", -1), (("c", 1),)), ((("a", -1), ("c", 1)),),
                      (("a", -1), ("c", (1,))),
                      (("a", -1), (("c",), 1)), (("a", -1), (1, "c")), (("a", -1), (True, 1)), (("a", -1), "c1"),
                      (("f", -1),), (("a", -1), ("c", 1), ("f", 1)), ("c", 1), ("a", "c"),
                      (("a", "against"), ("c", "along"))):
            with self.subTest(thing=thing):
                self.assertIs(is_sum(HOUSE, "current", "f", thing), False)
        self.assertIs(is_sum(HOUSE, "current", "f", (("a", -1), ("c", 1))), True)

    def test_other_kinds(self):
        for thing in (None, True, False, 0, 1, "", "a", "f1", [], ((),), [()], (0,), (None,), ("f",), {}, ("f", 1),
                      deep(("f", 1))):
            for what in KINDS:
                with self.subTest(thing=thing, what=what):
                    self.assertIs(is_sum(HOUSE, what, "f", thing), False)
                    self.assertIs(is_sum(HOUSE, what, "e" if what == "current" else "d", thing), False)
        self.assertIs(is_sum(HOUSE, "current", "f", ()), False)

    def test_beyond_the_bounds(self):
        self.assertIs(is_sum(HOUSE, "current", "e", tuple([("p" + str(number), 1) for number in range(2000)])), False)
        self.assertIs(is_sum(HOUSE, "current", "e", (("e", 10 ** 90),)), False)


class EqualTest(unittest.TestCase):

    def test_by_hand(self):
        for wiring, what, part, other, told in (
                (HOUSE, "current", "a", "a", 1), (HOUSE, "current", "e", "e", 1), (HOUSE, "current", "d", "e", None),
                (HOUSE, "voltage", "d", "d", 1), (LOOSE, "current", "a", "c", 1), (LOOSE, "voltage", "a", "c", None),
                (EIGHT, "current", "d", "e", -1), (EIGHT, "current", "a", "d", None),
                (EIGHT, "voltage", "a", "b", None),
                (NESTED, "current", "f1", "f4", -1), (NESTED, "voltage", "f2", "f3", -1),
                (NESTED, "voltage", "d2", "d3", None),
                ((("a", "k", "k"), ("b", "l", "l")), "voltage", "a", "b", 1),
                ((("a", "k", "k"), ("b", "l", "l")), "current", "a", "b", None),
                ((("a", "k", "l"), ("b", "l", "k")), "current", "a", "b", 1),
                ((("a", "k", "l"), ("b", "l", "k")), "voltage", "a", "b", -1)):
            with self.subTest(what=what, part=part, other=other):
                self.assertEqual(equal(wiring, what, part, other), told)
                self.assertEqual(equal(wiring, what, other, part), told)

    def test_mates(self):
        for wiring, currents, voltages in (
                ((), [], []), (LOOSE, [], []), (GATE, [], []), (SQUARE, [("a", "b")], [("c", "d")]),
                (ROUND, [parts(ROUND)], []), (SIDE_BY_SIDE, [], [("a", "b", "c", "d")]),
                (EIGHT, [("a", "b", "c"), ("d", "e", "f")], []), (GROUPS, [("a", "b")], [("a", "b")]),
                ((("a", "k", "k"), ("b", "k", "k")), [], []), (NESTED, [("d2", "d3"), ("f1", "f4")], [("f2", "f3")]),
                (ONE, [("a", "c", "d")], [("b", "e")]), (FIVE, [], [])):
            with self.subTest(wiring):
                self.assertEqual((mates(wiring, "current"), mates(wiring, "voltage")), (currents, voltages))


class AmountsTest(unittest.TestCase):

    def test_large_numbers(self):
        known, amounts = ("a", "c", "d"), (LARGE, -LARGE, LARGE - 1)
        told = completed(HOUSE, "current", known, amounts)
        self.assertIs(is_stream(HOUSE, told), True)
        self.assertEqual((told[0], told[2], told[3], told[5]), (LARGE, -LARGE, LARGE - 1, -2 * LARGE))
        known = ("a", "b", "c", "e")
        self.assertIsNone(contradiction(HOUSE, "voltage", known, (LARGE, LARGE, -2 * LARGE, 1)))
        told = completed(HOUSE, "voltage", known, (LARGE, LARGE, -2 * LARGE, 1))
        self.assertEqual(told, (LARGE, LARGE, -2 * LARGE, 0, 1, 2 * LARGE))
        self.assertEqual(heights(HOUSE, told), (0, LARGE, 2 * LARGE, -1))
        self.assertEqual(contradiction(HOUSE, "voltage", known, (LARGE, LARGE, -2 * LARGE - 1, 1)),
                         (("a", "along"), ("b", "along"), ("c", "along")))
        self.assertEqual((possible(HOUSE, "current", ("a", "b"), (LARGE, LARGE)),
                          possible(HOUSE, "current", ("a", "b"), (LARGE, LARGE + 1)),
                          possible(HOUSE, "current", ("e",), (0,)), possible(HOUSE, "current", ("e",), (LARGE,))),
                         (True, False, True, False))

    def test_none_known_and_all_known(self):
        for wiring in WIRINGS:
            for what, is_right in (("current", is_stream), ("voltage", is_drops)):
                told = completed(wiring, what, (), ())
                self.assertIs(is_right(wiring, told), True)
                self.assertEqual(len(told), len(wiring))
                self.assertEqual(completed(wiring, what, parts(wiring), told), told)
                self.assertEqual((possible(wiring, what, (), ()), contradiction(wiring, what, (), ())), (True, None))
                self.assertEqual((suspects(wiring, what, (), ()), suspects(wiring, what, parts(wiring), told)),
                                 ((), parts(wiring)))

    def test_single_parts(self):
        self.assertEqual((contradiction(HOUSE, "current", ("e",), (5,)), completed(HOUSE, "current", ("e",), (5,)),
                          suspects(HOUSE, "current", ("e",), (5,)), contradiction(HOUSE, "voltage", ("d",), (-1,)),
                          completed(HOUSE, "voltage", ("d",), (-1,)), suspects(HOUSE, "voltage", ("d",), (-1,))),
                         ((("e", "along"),), None, ("e",), (("d", "along"),), None, ("d",)))
        self.assertEqual(completed(HOUSE, "current", ("d",), (9,))[3], 9)

    def test_suspects(self):
        for wiring, what, known, amounts, told in (
                (ROUND, "current", tuple("abc"), (1, 1, 2), ("c",)), (ROUND, "current", tuple("abc"), (1, 2, 3), ()),
                (ROUND, "current", tuple("ab"), (1, 2), ("a", "b")),
                (ROUND, "current", tuple("abc"), (4, 4, 4), tuple("abc")),
                (SIDE_BY_SIDE, "voltage", tuple("abcd"), (2, 2, 3, 2), ("c",)),
                (SIDE_BY_SIDE, "voltage", tuple("abcd"), (2, 2, 3, 3), ()),
                (LOOP, "voltage", tuple("abc"), (1, 1, 1), tuple("abc")),
                (HOUSE, "current", ("a", "b", "d", "e"), (1, 2, 5, 0), ("a", "b")),
                (HOUSE, "current", ("a", "b", "d", "e"), (1, 2, 5, 1), ()),
                (HOUSE, "current", ("a", "d", "e"), (1, 5, 1), ("e",)), (LOOSE, "current", ("a", "b"), (0, 3), ("b",))):
            with self.subTest(what=what, known=known, amounts=amounts):
                self.assertEqual(suspects(wiring, what, known, amounts), told)
                self.assertEqual(possible(wiring, what, known, amounts), told == known and not (
                    contradiction(wiring, what, known, amounts)))

    def test_wrong_meters(self):
        for wiring, what, known, shown, named in (
                (LOOP, "current", ("a",), False, False), (LOOP, "current", ("a", "b"), True, False),
                (LOOP, "current", ("a", "b", "c"), True, True), (LOOP, "voltage", ("a", "b"), False, False),
                (LOOP, "voltage", ("a", "b", "c"), True, False), (HOUSE, "current", (), True, True),
                (HOUSE, "current", ("e",), True, True), (HOUSE, "current", ("d",), False, False),
                (HOUSE, "current", ("a", "b", "e"), True, False), (HOUSE, "voltage", ("d",), True, True),
                (HOUSE, "current", ("a", "b", "d"), False, False), (SIDE_BY_SIDE, "voltage", ("a", "b"), True, False),
                (SIDE_BY_SIDE, "voltage", ("a", "b", "d"), True, True),
                (SIDE_BY_SIDE, "current", tuple("abcd"), True, False),
                (GATE, "current", parts(GATE), True, True), (GATE, "voltage", parts(GATE), True, True),
                (GATE, "voltage", parts(GATE)[:5], True, False), (GATE, "voltage", parts(GATE)[:4], False, False),
                (FIVE, "voltage", parts(FIVE), True, True), (MANY, "current", parts(MANY), True, True)):
            with self.subTest(what=what, known=known):
                self.assertEqual((shows_one_wrong(wiring, what, known), names_one_wrong(wiring, what, known)),
                                 (shown, named))

    def test_what_is_returned_goes_in_again(self):
        for wiring in WIRINGS:
            for what in KINDS:
                known = settled(wiring, what, parts(wiring)[:2])
                self.assertEqual(settled(wiring, what, known), known)
                told = completed(wiring, what, parts(wiring)[:1], (0,) * len(wiring[:1]))
                self.assertEqual(completed(listed(wiring), what, list(parts(wiring)), list(told)), told)
                for names in mates(wiring, what):
                    self.assertTrue(all(settled(wiring, what, (part,)) > () for part in names))


if __name__ == "__main__":
    unittest.main()
