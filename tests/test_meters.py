"""[9]: meters: the fewest, how many sets of them, the cheapest, spare ones and blinding ones."""

import unittest
from itertools import combinations, product

from sameloops.errors import NoPart
from sameloops.settle import (blinding, cheapest_meters, least_meters, many_meter_sets, meter_sets, settled,
                              settles_all, spare)
from sameloops.sums import fewest_between, with_row
from sameloops.wirings import nodes, parts, rank
from tests.support import (EIGHT, FIVE, GATE, GROUPS, HOUSE, LOOP, LOOSE, NESTED, ROUND, SIDE_BY_SIDE, SQUARE, WHEEL,
                           WIRINGS, scattered, subsets)

KINDS = ("current", "voltage")
NAMES = ["p" + str(number).zfill(2) for number in range(60)]
BIG = 10 ** 59


def drawn(pairs):
    """A wiring of parts between these pairs of numbers."""
    return tuple([(name, "n" + str(one), "n" + str(other)) for name, (one, other) in zip(NAMES, pairs)])


RING60 = drawn([(at, (at + 1) % 60) for at in range(60)])
WIDE60 = drawn([(at % 2, 1 - at % 2) for at in range(60)])
TREE60 = drawn([(at, (at - 1) // 2) for at in range(1, 61)])
LOOPS60 = drawn([(at % 7, at % 7) for at in range(60)])
APART60 = drawn([(2 * at, 2 * at + 1) for at in range(60)])
TRIANGLES60 = drawn([(3 * (at // 3) + at % 3, 3 * (at // 3) + (at + 1) % 3) for at in range(60)])
ELEVEN = drawn(list(combinations(range(11), 2)))
SIX_AND_TEN = drawn(list(product(range(6), range(10, 20))))
DOUBLE = drawn([pair for pair in combinations(range(8), 2) for _ in range(2)] + [(0, 0), (3, 3), (8, 8), (9, 10)])


def cheapest(wiring, what, prices):
    price = dict(zip(parts(wiring), prices))
    return min(meter_sets(wiring, what), key=lambda names: (sum([price[name] for name in names]), names))


class ExamplesTest(unittest.TestCase):

    def test_meters(self):
        self.assertEqual((least_meters(HOUSE, "current"), meter_sets(HOUSE, "current"), many_meter_sets(HOUSE),
                          cheapest_meters(HOUSE, "current", (5, 1, 2, 9, 7, 4))),
                         (3, [("a", "c", "d"), ("a", "d", "f"), ("b", "c", "d"), ("b", "d", "f"), ("c", "d", "f")], 5,
                          ("b", "c", "d")))

    def test_spare(self):
        known = ("a", "b", "c")
        self.assertEqual((spare(LOOP, "current", known), blinding(LOOP, "current", known),
                          spare(LOOP, "voltage", known),
                          spare(LOOP, "voltage", ("a",)), len(blinding(LOOP, "voltage", known))),
                         (2, ("a", "b", "c"), 1, -1, 2))


class MetersTest(unittest.TestCase):

    def test_all_sets(self):
        for wiring in WIRINGS + (LOOP, WHEEL, NESTED[:9]):
            for what in KINDS:
                many = least_meters(wiring, what)
                self.assertEqual(many, rank(wiring) if what == "voltage" else len(wiring) - rank(wiring))
                sets = [names for names in combinations(parts(wiring), many) if settles_all(wiring, what, names)]
                self.assertEqual(meter_sets(wiring, what), sets)
                self.assertEqual(many_meter_sets(wiring), len(sets))
                if many:
                    fewer = combinations(parts(wiring), many - 1)
                    self.assertFalse(any(settles_all(wiring, what, names) for names in fewer))

    def test_what_the_ones_leave_are_the_others(self):
        for wiring in WIRINGS + (LOOP, WHEEL):
            left = [tuple([part for part in parts(wiring) if part not in names])
                    for names in meter_sets(wiring, "voltage")]
            self.assertEqual(meter_sets(wiring, "current"), sorted(left))

    def test_ends(self):
        for wiring, currents, voltages in (((), [()], [()]), (LOOSE, [()], [("a", "b", "c")]),
                                           ((("a", "k", "k"), ("b", "k", "k")), [("a", "b")], [()]),
                                           (ROUND[:1], [()], [("a",)]), (LOOP, [("a",), ("b",), ("c",)],
                                                                         [("a", "b"), ("a", "c"), ("b", "c")]),
                                           (GROUPS, [("a", "d"), ("b", "d")], [("a", "c", "e"), ("b", "c", "e")])):
            with self.subTest(wiring):
                self.assertEqual((meter_sets(wiring, "current"), meter_sets(wiring, "voltage")), (currents, voltages))

    def test_twelve_parts(self):
        wiring = drawn([pair for pair in combinations(range(4), 2) for _ in range(2)])
        self.assertEqual((len(meter_sets(wiring, "current")), many_meter_sets(wiring)), (16 * 8, 16 * 8))
        row = drawn([(at, (at + 1) % 12) for at in range(12)])
        self.assertEqual((len(meter_sets(row, "voltage")), meter_sets(row, "current")),
                         (12, [(name,) for name in parts(row)]))


class ManyTest(unittest.TestCase):

    def test_sixty_parts(self):
        for wiring, told in ((RING60, 60), (WIDE60, 60), (TREE60, 1), (LOOPS60, 1), (APART60, 1),
                             (TRIANGLES60, 3 ** 20),
                             (ELEVEN, 11 ** 9), (SIX_AND_TEN, 6 ** 9 * 10 ** 5), (DOUBLE, 8 ** 6 * 2 ** 7),
                             (TRIANGLES60[:59], 3 ** 19), ((), 1)):
            with self.subTest(wiring[:3]):
                self.assertEqual(many_meter_sets(wiring), told)

    def test_pairs_in_a_ring(self):
        # Of ten pairs one is left out, of each other one just one part is taken.
        wiring = drawn([(at // 2, (at // 2 + 1) % 10) for at in range(20)])
        self.assertEqual(many_meter_sets(wiring), 10 * 2 ** 9)


class CheapestTest(unittest.TestCase):

    def test_against_all_sets(self):
        rows = ((0,) * 20, (1, 1, 2, 2) * 5, (5, 4, 3, 2, 1, 0) * 4, (-1, 0, 1) * 7, (3, -3) * 10, (-2, -2, -1) * 7,
                (BIG, -BIG, 0, 1) * 5, (2, 1, 2, 1, 1) * 4, tuple([number * number % 7 for number in range(20)]),
                tuple([-(number * 5 % 4) for number in range(20)]))
        for wiring in WIRINGS + (LOOP, WHEEL, FIVE):
            for what in KINDS:
                for row in rows:
                    prices = row[:len(wiring)]
                    self.assertEqual(cheapest_meters(wiring, what, prices), cheapest(wiring, what, prices))

    def test_all_small_prices(self):
        for wiring in (SQUARE, HOUSE, SIDE_BY_SIDE, LOOSE, GATE):
            for prices in product((-1, 0, 1), repeat=len(wiring)):
                for what in KINDS:
                    self.assertEqual(cheapest_meters(wiring, what, prices), cheapest(wiring, what, prices))

    def test_many_parts(self):
        equal_prices = (0,) * 60
        self.assertEqual((cheapest_meters(RING60, "current", equal_prices),
                          cheapest_meters(RING60, "voltage", equal_prices)),
                         (("p00",), tuple(NAMES[:59])))
        dear = (BIG,) * 30 + (-BIG,) + (BIG - 1,) * 29
        self.assertEqual((cheapest_meters(RING60, "current", dear), cheapest_meters(RING60, "voltage", dear)),
                         (("p30",), tuple(NAMES[:29] + NAMES[30:])))
        self.assertEqual((cheapest_meters(WIDE60, "voltage", dear), cheapest_meters(WIDE60, "current", dear)),
                         (("p30",), tuple(NAMES[:29] + NAMES[30:])))
        self.assertEqual((cheapest_meters(TREE60, "current", dear), cheapest_meters(TREE60, "voltage", dear)),
                         ((), tuple(NAMES)))
        self.assertEqual((cheapest_meters(LOOPS60, "current", dear), cheapest_meters(LOOPS60, "voltage", dear)),
                         (tuple(NAMES), ()))
        # Of each three the dearest is left out, of equal ones the last.
        prices = (5, 7, 6, 2, 2, 2, -3, -1, -1) + (0, 0, 1) * 17
        left_out = ["p01", "p05", "p08"] + NAMES[11::3]
        self.assertEqual(cheapest_meters(TRIANGLES60, "voltage", prices),
                         tuple([name for name in NAMES if name not in left_out]))
        taken = ["p00", "p03", "p06"] + NAMES[9::3]
        self.assertEqual(cheapest_meters(TRIANGLES60, "current", prices), tuple(taken))

    def test_star_of_eleven(self):
        # The parts at one node are cheap: they settle all voltages.
        prices = [-1 if name in NAMES[:10] else 3 for name, _, _ in ELEVEN]
        self.assertEqual(cheapest_meters(ELEVEN, "voltage", prices), tuple(NAMES[:10]))
        self.assertEqual(cheapest_meters(ELEVEN, "current", [-price for price in prices]), tuple(NAMES[10:55]))

    def test_empty(self):
        self.assertEqual((cheapest_meters((), "current", ()), cheapest_meters((), "voltage", [])), ((), ()))


class SpareTest(unittest.TestCase):

    def check(self, wiring, what, known, told):
        with self.subTest(what=what, known=known):
            blind = blinding(wiring, what, known)
            self.assertEqual(spare(wiring, what, known), told)
            if told is None:
                self.assertIsNone(blind)
            else:
                self.assertIs(type(blind), tuple)
                self.assertEqual((len(blind), blind), (told + 1, tuple(sorted(set(blind)))))
                self.assertTrue(set(blind) <= set(known))
                rest = tuple([part for part in known if part not in blind])
                self.assertIs(settles_all(wiring, what, rest), False)

    def test_by_hand(self):
        for wiring, what, known, told in (
                ((), "current", (), None), ((), "voltage", (), None), (LOOSE, "current", (), None),
                (LOOSE, "current", ("a", "b"), None), (LOOSE, "voltage", (), -1), (LOOSE, "voltage", ("a", "b"), -1),
                (LOOSE, "voltage", ("a", "b", "c"), 0), (GATE, "current", parts(GATE), 2),
                (GATE, "voltage", parts(GATE), 2),
                (GATE, "current", ("a", "b", "c"), 0), (GATE, "voltage", ("a", "b", "c"), -1),
                (FIVE, "current", parts(FIVE), 2), (FIVE, "voltage", parts(FIVE), 3),
                (HOUSE, "current", parts(HOUSE), 0),
                (HOUSE, "voltage", parts(HOUSE), 0), (HOUSE, "current", (), -1), (HOUSE, "voltage", (), -1),
                (SIDE_BY_SIDE, "current", ("a", "b", "c", "d"), 1), (SIDE_BY_SIDE, "voltage", ("a", "b", "c", "d"), 3),
                (SIDE_BY_SIDE, "voltage", ("a", "c"), 1), (SIDE_BY_SIDE, "current", ("a", "b", "d"), 0),
                (SIDE_BY_SIDE, "current", ("a", "b"), -1), (ROUND, "current", ("c", "d"), 1),
                (EIGHT, "current", ("a", "d", "e"), 0),
                (EIGHT, "current", ("a", "b", "d", "e"), 1), (EIGHT, "current", ("a", "b"), -1),
                (EIGHT, "voltage", parts(EIGHT), 1),
                (GROUPS, "voltage", ("a", "b", "c", "d", "e"), 0), (GROUPS, "current", ("a", "b", "d"), 0),
                ((("a", "k", "k"),), "current", ("a",), 0), ((("a", "k", "k"),), "voltage", ("a",), None),
                (WHEEL, "current", parts(WHEEL), 2), (WHEEL, "voltage", parts(WHEEL), 2),
                (NESTED, "current", parts(NESTED), 1), (NESTED, "voltage", parts(NESTED), 1)):
            self.check(wiring, what, known, told)

    def test_twenty_four_parts(self):
        seven = drawn(list(combinations(range(7), 2)) + [(0, 6), (6, 0), (3, 3)])
        self.check(seven, "voltage", parts(seven), 5)
        self.check(seven, "current", parts(seven), 0)
        self.check(seven, "voltage", parts(seven)[:23], 5)
        self.check(seven, "current", parts(seven)[6:], 0)
        wide = WIDE60[:24]
        self.check(wide, "voltage", parts(wide), 23)
        self.check(wide, "current", parts(wide), 1)
        self.assertEqual((blinding(wide, "voltage", parts(wide)), len(blinding(wide, "current", parts(wide)))),
                         (parts(wide), 2))
        row = drawn([(at, (at + 1) % 24) for at in range(24)])
        self.check(row, "current", parts(row), 23)
        self.check(row, "voltage", parts(row), 1)

    def test_scattered_ones(self):
        for seed in range(40):
            wiring = scattered(24, 4 + seed % 6, seed)
            for known in (parts(wiring), parts(wiring)[2:], parts(wiring)[::2] + parts(wiring)[21::2]):
                known = tuple(sorted(set(known)))
                # A cut has as many of known as lead out of some half of the nodes.
                many = min([len([part for part, start, end in wiring if part in known
                                 and (start in half) != (end in half)])
                            for half in subsets(nodes(wiring))
                            if any((start in half) != (end in half) for _, start, end in wiring)])
                self.check(wiring, "voltage", known, many - 1)

    def test_a_part_that_two_rows_need_in_opposite_ways(self):
        ends = ("pr", "qm", "ur", "qu", "mp", "mn", "pm", "rq", "mu", "rp", "nu", "rr", "qr", "rp")
        wiring = tuple([(name, *pair) for name, pair in zip("abcdefghijklmn", ends)])
        self.check(wiring, "voltage", parts(wiring), 1)
        self.assertEqual([len(fewest_between(wiring, *pair)[0]) for pair in ("pu", "up", "nu", "qm", "rn")],
                         [4, 4, 2, 4, 2])
        flow, row = [("a", "along"), ("b", "along")], (("c", "against"), ("b", "against"), ("d", "along"))
        self.assertEqual(with_row(flow, row), [("a", "along"), ("c", "against"), ("d", "along")])

    def test_no_part(self):
        for wiring, what in ((LOOSE, "current"), ((), "current"), ((), "voltage"), (SIDE_BY_SIDE, "voltage"),
                             ((("d", "k", "k"),), "voltage")):
            for call in (spare, blinding):
                with self.subTest(call.__name__), self.assertRaises(NoPart) as caught:
                    call(wiring, what, ("z",))
                self.assertEqual(caught.exception.part, "z")

    def test_what_is_returned_goes_in_again(self):
        for names in meter_sets(WHEEL, "current"):
            self.assertEqual((settled(WHEEL, "current", names), spare(WHEEL, "current", names)), (parts(WHEEL), 0))


if __name__ == "__main__":
    unittest.main()
