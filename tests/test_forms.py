"""[8]: ranks, strong partings, cells, mates, and the drawings of alike wirings."""

import unittest
from functools import lru_cache
from itertools import combinations, permutations
from math import factorial

from sameloops.alike import alike
from sameloops.errors import NoDrawing, NoPart
from sameloops.forms import (bundle_mates, cells_of, chain_mates, drawing, drawings, form, how_many, number_of, rank_of,
                             strong)
from sameloops.rings import cuts, is_ring, rings
from sameloops.turns import drawn_alike, is_piece, turned, turned_all, turns_to
from sameloops.wirings import blocks, is_wiring, nodes, opened, parts, rank, reversed_parts
from tests.support import (EIGHT, FIVE, GATE, GATES, GROUPS, HOUSE, LOOP, LOOSE, NESTED, ONE, OTHER, POINTED, ROUND,
                           ROW_IN_GATE, SAME_NAMES, SIDE_BY_SIDE, SQUARE, THIRD, TURNED_SQUARE, WHEEL, WIRINGS, plain,
                           scattered, slow_cuts,
                           slow_rings, subsets)

PAIR = (("a", "k", "l"), ("b", "l", "k"))
ALL = WIRINGS + (ONE, OTHER, THIRD, LOOP, PAIR, WHEEL, NESTED, GATES, ROW_IN_GATE)
ROW14 = tuple([(sign, "n" + sign, "n" + after) for sign, after in zip("abcdefghijklmn", "bcdefghijklmna")])
# Three pieces in a ring, each a row of two parts beside one part.
LADDER = (("a", "k", "l"), ("b", "l", "m"), ("c", "m", "k"), ("d", "m", "n"), ("e", "n", "o"), ("f", "o", "m"),
          ("g", "o", "q"), ("h", "q", "k"), ("i", "k", "o"))


@lru_cache(maxsize=None)
def ring_free(wiring):
    """All sets of parts among which there is no ring."""
    found = [{part for part, _ in ring} for ring in slow_rings(wiring)]
    return [set(chosen) for chosen in subsets(parts(wiring)) if not any(ring <= set(chosen) for ring in found)]


def slow_rank(wiring, names):
    """The greatest number of names among which there is no ring."""
    return max([len(chosen) for chosen in ring_free(wiring) if chosen <= set(names)])


def partings(wiring, block):
    """All partings of the block, each told by its side without the least part."""
    whole = slow_rank(wiring, block)
    sides = [side for side in subsets(block[1:]) if 2 <= len(side) <= len(block) - 2]
    return [side for side in sides if slow_rank(wiring, side)
            + slow_rank(wiring, tuple([part for part in block if part not in side])) == whole + 1]


def cross(block, one, other):
    return all(any((part in one) == inside and (part in other) == within for part in block)
               for inside in (True, False) for within in (True, False))


def slow_strong(wiring, block):
    found = partings(wiring, block)
    return sorted([side for side in found if not any(cross(block, side, other) for other in found)])


def block_with(wiring, part):
    return [block for block in blocks(wiring) if part in block][0]


class ExamplesTest(unittest.TestCase):

    def test_square(self):
        self.assertEqual((cells_of(SQUARE, "a"), strong(SQUARE, "a"), rank_of(SQUARE, ("a", "c", "d"))),
                         ([("bundle", (("a", "b"), ("c",), ("d",))), ("chain", (("a",), ("b",), ("c", "d")))],
                          [("c", "d")], 2))
        self.assertEqual((chain_mates(SQUARE, "a"), chain_mates(SQUARE, "c"), bundle_mates(SQUARE, "c"),
                          drawings(SQUARE, "a"), how_many(SQUARE)),
                         ((("a", "along"), ("b", "along")), (("c", "along"),), (("c", "along"), ("d", "along")), 2, 2))

    def test_gate(self):
        about = reversed_parts(GATE, ("a", "b", "c", "d", "e", "f"))
        self.assertEqual((cells_of(GATE, "a"), drawings(GATE, "a"), drawn_alike(GATE, about)),
                         ([("rigid", (("a",), ("b",), ("c",), ("d",), ("e",), ("f",)))], 2, False))
        self.assertEqual((len(turns_to(GATE, about)) > 0, strong(opened(GATE, ("f",)), "a"),
                          drawings(opened(GATE, ("f",)), "a")), (True, [("c", "d", "e"), ("d", "e")], 4))

    def test_loose(self):
        self.assertEqual((cells_of(LOOSE, "a"), chain_mates(LOOSE, "a"), how_many(LOOSE),
                          form(SQUARE) == form(TURNED_SQUARE), number_of(SQUARE, "a") == number_of(TURNED_SQUARE, "a")),
                         ([], (), 32, True, False))


class RankTest(unittest.TestCase):

    def test_against_the_slow_answer(self):
        for wiring in WIRINGS[:-3] + (LOOP, PAIR):
            for names in subsets(parts(wiring))[::3]:
                self.assertEqual(rank_of(wiring, names), slow_rank(wiring, names))
            self.assertEqual((rank_of(wiring, parts(wiring)), rank_of(wiring, ())), (rank(wiring), 0))

    def test_no_part(self):
        for names, first in ((("a", "y", "z"), "y"), (("p",), "p"), (("aa", "b"), "aa")):
            with self.subTest(names=names), self.assertRaises(NoPart) as caught:
                rank_of(SQUARE, names)
            self.assertEqual(caught.exception.part, first)


class CellsTest(unittest.TestCase):

    def test_nested(self):
        nested = ("d1", "d2", "d3")
        rest = ("a", "b", "c", "d1", "d2", "d3", "e")
        for part in parts(NESTED):
            self.assertEqual(strong(NESTED, part), [nested, ("d2", "d3"), ("f1", "f2", "f3", "f4"), ("f2", "f3")])
            self.assertEqual(cells_of(NESTED, part), [
                ("bundle", (("a", "b", "c", "d1", "d2", "d3", "e", "f1", "f4"), ("f2",), ("f3",))),
                ("bundle", (("a", "b", "c", "e", "f1", "f2", "f3", "f4"), ("d1",), ("d2", "d3"))),
                ("chain", (rest, ("f1",), ("f2", "f3"), ("f4",))),
                ("chain", (("a", "b", "c", "d1", "e", "f1", "f2", "f3", "f4"), ("d2",), ("d3",))),
                ("rigid", (("a",), ("b",), ("c",), nested, ("e",), ("f1", "f2", "f3", "f4")))])
            self.assertEqual(drawings(NESTED, part), 2 * 6 * 2)

    def test_a_gate_in_a_gate(self):
        inner, outer = ("f", "g", "h", "i", "j"), ("a", "b", "c", "d", "e")
        self.assertEqual(strong(GATES, "j"), [inner])
        self.assertEqual(cells_of(GATES, "j"), [("rigid", (("a",), ("b",), ("c",), ("d",), ("e",), inner)),
                                                ("rigid", (outer, ("f",), ("g",), ("h",), ("i",), ("j",)))])
        self.assertEqual(drawings(GATES, "a"), 4)

    def test_one_kind_alone(self):
        singles = tuple([(part,) for part in parts(ROUND)])
        self.assertEqual((cells_of(ROUND, "c"), strong(ROUND, "c"), drawings(ROUND, "c")),
                         ([("chain", singles)], [], 720))
        singles = tuple([(part,) for part in parts(SIDE_BY_SIDE)])
        self.assertEqual((cells_of(SIDE_BY_SIDE, "d"), strong(SIDE_BY_SIDE, "d"), drawings(SIDE_BY_SIDE, "d")),
                         ([("bundle", singles)], [], 1))
        for wiring in (WHEEL, FIVE, GATE):
            singles = tuple([(part,) for part in parts(wiring)])
            part = parts(wiring)[-1]
            self.assertEqual((cells_of(wiring, part), strong(wiring, part), drawings(wiring, part)),
                             ([("rigid", singles)], [], 2))

    def test_few_parts(self):
        self.assertEqual((cells_of(PAIR, "a"), strong(PAIR, "a"), drawings(PAIR, "b")),
                         ([("bundle", (("a",), ("b",)))], [], 1))
        for wiring, part in ((HOUSE, "d"), (HOUSE, "e"), (LOOSE, "b"), ((("a", "k", "k"),), "a"),
                             ((("a", "k", "l"),), "a")):
            self.assertEqual((cells_of(wiring, part), strong(wiring, part), drawings(wiring, part)), ([], [], 1))
        self.assertEqual((cells_of(LOOP, "b"), drawings(LOOP, "b")), ([("chain", (("a",), ("b",), ("c",)))], 2))
        self.assertEqual(cells_of(GROUPS, "b"), [("bundle", (("a",), ("b",)))])

    def test_blocks_apart(self):
        self.assertEqual((cells_of(EIGHT, "c"), cells_of(EIGHT, "d")),
                         ([("chain", (("a",), ("b",), ("c",)))], [("chain", (("d",), ("e",), ("f",)))]))
        self.assertEqual(cells_of(HOUSE, "b"), [("bundle", (("a", "b"), ("c",), ("f",))),
                                                ("chain", (("a",), ("b",), ("c", "f")))])

    def test_against_the_slow_answers(self):
        for wiring in ALL:
            for block in [block for block in blocks(wiring) if len(block) <= 8]:
                found = partings(wiring, block)
                for part in block:
                    self.assertEqual(strong(wiring, part), slow_strong(wiring, block))
                    self.check_cells(block, cells_of(wiring, part), found, slow_strong(wiring, block))

    def check_cells(self, block, cells, found, sides):
        self.assertEqual(cells, sorted(cells))
        self.assertEqual(len(cells), len(sides) + 1 if len(block) > 1 else 0)
        names = [name for _, members in cells for name in members]
        for side in sides:
            other = tuple([part for part in block if part not in side])
            self.assertEqual((names.count(side), names.count(other)), (1, 1))
        for kind, members in cells:
            self.assertEqual(sorted([part for member in members for part in member]), list(block))
            self.assertEqual(members, tuple(sorted(members)))
            for many in range(2, len(members) - 1):
                for chosen in combinations(members[1:], many):
                    side = tuple(sorted([part for member in chosen for part in member]))
                    self.assertEqual(side in found, kind != "rigid")
            if len(members) == 3:
                self.assertIn(kind, ("chain", "bundle"))

    def test_chains_and_bundles_of_three(self):
        # Any two single members of a chain are together on all rings, those of a bundle a ring or on it with a row.
        for wiring in ALL:
            for part in parts(wiring):
                for kind, members in cells_of(wiring, part):
                    singles = [member[0] for member in members if len(member) == 1]
                    for one, other in combinations(singles, 2):
                        if len(block_with(wiring, part)) > 2:
                            mates = dict(chain_mates(wiring, one)), dict(bundle_mates(wiring, one))
                            self.assertEqual((other in mates[0], other in mates[1]),
                                             (kind == "chain", kind == "bundle"))

    def test_ladder(self):
        self.assertEqual(slow_strong(LADDER, parts(LADDER)), strong(LADDER, "e"))
        self.check_cells(parts(LADDER), cells_of(LADDER, "a"), partings(LADDER, parts(LADDER)), strong(LADDER, "a"))
        self.assertEqual(strong(LADDER, "a"), [
            ("c", "d", "e", "f", "g", "h", "i"), ("d", "e"), ("d", "e", "f"), ("d", "e", "f", "g", "h", "i"),
            ("g", "h"), ("g", "h", "i")])
        self.assertEqual(drawings(LADDER, "a"), 2 * 2 * 2 * 2)

    def test_no_part(self):
        for call in (strong, cells_of, chain_mates, bundle_mates, drawings, number_of,
                     lambda wiring, part: drawing(wiring, part, 0), lambda wiring, part: drawing(wiring, part, -1),
                     lambda wiring, part: drawing(wiring, part, 99)):
            for wiring, part in ((SQUARE, "p"), (SQUARE, "aa"), ((), "a")):
                with self.subTest(part=part), self.assertRaises(NoPart) as caught:
                    call(wiring, part)
                self.assertEqual(caught.exception.part, part)


class MatesTest(unittest.TestCase):

    def slow_mates(self, found, part):
        """Those that each of found has together with the part, always with the same two ways or always with unlike."""
        having = [dict(thing) for thing in found if part in dict(thing)]
        mates = []
        for mate in sorted({name for thing in found for name, _ in thing}) if having else []:
            signs = {row.get(mate) and row[mate] == row[part] for row in having}
            elsewhere = any(mate in dict(thing) and part not in dict(thing) for thing in found)
            if signs in ({True}, {False}) and not elsewhere:
                mates.append((mate, "along" if signs == {True} else "against"))
        return tuple(mates)

    def test_against_all_rings_and_cuts(self):
        for wiring in WIRINGS + (ONE, OTHER, THIRD, LOOP, PAIR, WHEEL):
            for part in parts(wiring):
                self.assertEqual(chain_mates(wiring, part), self.slow_mates(slow_rings(wiring), part))
                self.assertEqual(bundle_mates(wiring, part), self.slow_mates(slow_cuts(wiring), part))

    def test_by_hand(self):
        self.assertEqual((chain_mates(HOUSE, "d"), bundle_mates(HOUSE, "d")), ((("d", "along"),), ()))
        self.assertEqual((chain_mates(HOUSE, "e"), bundle_mates(HOUSE, "e")), ((), (("e", "along"),)))
        self.assertEqual((chain_mates(PAIR, "b"), bundle_mates(PAIR, "b")),
                         ((("a", "along"), ("b", "along")), (("a", "against"), ("b", "along"))))
        self.assertEqual(chain_mates(EIGHT, "e"), (("d", "against"), ("e", "along"), ("f", "against")))
        self.assertEqual((chain_mates(NESTED, "f4"), bundle_mates(NESTED, "f3")),
                         ((("f1", "against"), ("f4", "along")), (("f2", "against"), ("f3", "along"))))
        self.assertEqual((chain_mates(POINTED, "a1"), bundle_mates(POINTED, "a.2")), ((), (("a.2", "along"),)))
        self.assertEqual(chain_mates(GATE, "a") + bundle_mates(GATE, "a"), (("a", "along"),) * 2)


class DrawingsTest(unittest.TestCase):

    def test_how_many(self):
        loop, bridge = (("a", "k", "k"),), (("a", "k", "l"),)
        for wiring, told in (((), 1), (loop, 1), (bridge, 1), (loop + (("b", "k", "k"),), 1), (PAIR, 1), (LOOP, 2),
                             (loop + (("b", "k", "l"),), 1 * 2), (LOOSE, 2 * 2 * 2 * 4), (LOOSE[:2], 4),
                             (HOUSE, 2 * 3 * 1 * 2 * 4), (EIGHT, 2 * 2 * 3 * 3), (GROUPS, 2 * 2 * 1 * 2 * 4 ** 2),
                             (NESTED, 24), (GATES, 4), (ROW14, factorial(13)), (SAME_NAMES, 2 * 3 * 2)):
            with self.subTest(wiring):
                self.assertEqual(how_many(wiring), told)

    def test_fourteen_bridges(self):
        wiring = tuple([(sign, "k" + sign, "l" + sign) for sign in "abcdefghijklmn"])
        self.assertEqual((how_many(wiring), form(wiring), drawings(wiring, "n")),
                         (2 ** 14 * 15 ** 12, form(tuple([(sign, "l", "k" + sign) for sign in "abcdefghijklmn"])), 1))

    def test_all_numbers(self):
        for wiring in ALL:
            for block in blocks(wiring):
                part = block[-1]
                many = drawings(wiring, part)
                if many <= 24:
                    found = [drawing(wiring, part, number) for number in range(many)]
                    self.assertEqual(len({plain(one) for one in found}), many)
                    for number, one in enumerate(found):
                        self.assertTrue(is_wiring(one))
                        self.assertEqual((parts(one), rings(one)),
                                         (block, rings([item for item in wiring if item[0] in block])))
                        self.assertEqual(number_of(one, part), number)
                        self.assertEqual([drawing(one, part, at) for at in range(many)], found)
                    mine = found[number_of(wiring, part)]
                    self.assertTrue(drawn_alike(mine, tuple([item for item in wiring if item[0] in block])))

    def test_all_turns_lead_to_just_so_many(self):
        for wiring in (SQUARE, GATE, ONE, THIRD, opened(GATE, ("f",)),
                       ROUND[:3] + (("d", "d0", "a0"), ("e", "a0", "c0")), WHEEL):
            met, waiting = {plain(wiring): wiring}, [wiring]
            while waiting:
                here = waiting.pop()
                for piece in [piece for piece in subsets(parts(here)) if is_piece(here, piece)]:
                    there = turned(here, piece)
                    if plain(there) not in met:
                        met[plain(there)] = there
                        waiting.append(there)
            self.assertEqual(len(met), drawings(wiring, "a"))
            self.assertEqual(sorted([number_of(one, "a") for one in met.values()]), list(range(len(met))))
            self.assertEqual({form(one) for one in met.values()}, {form(wiring)})

    def test_rigid_ones_with_all_names(self):
        for names in list(permutations("abcdef"))[::7]:
            wiring = tuple(sorted([(name, *ends) for name, (_, *ends) in zip(names, GATE)]))
            about = reversed_parts(wiring, parts(wiring))
            self.assertEqual(sorted([number_of(wiring, "a"), number_of(about, "a")]), [0, 1])
            self.assertEqual([drawing(about, "a", 0), drawing(about, "a", 1)],
                             [drawing(wiring, "a", 0), drawing(wiring, "a", 1)])

    def test_scattered_ones(self):
        for seed in range(60):
            wiring = scattered(8 + seed % 7, 3 + seed % 5, seed)
            self.assertTrue(alike(form(wiring), wiring))
            for block in blocks(wiring):
                many = drawings(wiring, block[0])
                for number in {0, many // 3, many // 2, many - 1}:
                    one = drawing(wiring, block[0], number)
                    self.assertEqual((number_of(one, block[0]), cells_of(one, block[0])),
                                     (number, cells_of(wiring, block[0])))
                    self.assertTrue(alike(one, [item for item in wiring if item[0] in block]))

    def test_large_numbers(self):
        last = factorial(13) - 1
        for number in (0, 1, 12, 479001599, 479001600, 1234567890, last - 1, last):
            one = drawing(ROW14, "d", number)
            self.assertTrue(alike(one, ROW14))
            self.assertEqual(number_of(one, "n"), number)
        self.assertEqual(len({plain(drawing(ROW14, "a", number)) for number in range(0, last, last // 50)}), 51)

    def test_no_drawing(self):
        for wiring, part, many in ((SQUARE, "a", 2), (LOOSE, "b", 1), (HOUSE, "d", 1), (ROW14, "a", factorial(13)),
                                   (PAIR, "b", 1)):
            for number in (-1, many, many + 1, -many, 10 ** 40, -10 ** 40):
                with self.subTest(number=number), self.assertRaises(NoDrawing) as caught:
                    drawing(wiring, part, number)
                self.assertEqual(caught.exception.number, number)
            self.assertTrue(is_wiring(drawing(wiring, part, many - 1)))


class FormTest(unittest.TestCase):

    def test_alike_and_the_same(self):
        for wiring in ALL:
            told = form(wiring)
            self.assertTrue(is_wiring(told))
            self.assertTrue(alike(told, wiring))
            self.assertEqual(form(told), told)
            self.assertEqual(form(reversed_parts(wiring, parts(wiring))), told)
            renamed = tuple([(part, "z" + start[::-1] + "x", "z" + end[::-1] + "x") for part, start, end in wiring])
            self.assertEqual(form(renamed), told)

    def test_turned_and_joined_elsewhere(self):
        for one, other in ((ONE, OTHER), (SQUARE, TURNED_SQUARE),
                           (LOOSE, (("a", "x", "y"), ("b", "x", "z"), ("c", "v", "w"))),
                           (NESTED, turned_all(NESTED, (("d1", "d2", "d3"), ("f1", "f2", "f3"), ("f1", "f4")))),
                           (GATES, turned(GATES, ("f", "g", "h", "i", "j"))),
                           (HOUSE, reversed_parts(HOUSE, ("d", "e"))),
                           (EIGHT, EIGHT[:3] + (("d", "u", "v"), ("e", "w", "v"), ("f", "w", "u"))), ((), ())):
            self.assertEqual(form(one), form(other))
        forms = [form(wiring) for wiring in (ONE, THIRD, SQUARE, LOOSE, LOOP, HOUSE, GATE, reversed_parts(GATE, ("a",)),
                                             reversed_parts(ONE, ("a",)), reversed_parts(HOUSE, ("a",)), ())]
        self.assertEqual(len(set(forms)), len(forms))

    def test_nodes_of_blocks(self):
        # Blocks may be joined or not, but not so that a ring comes of it.
        for wiring in ALL:
            told = form(wiring)
            self.assertEqual(rank(told), rank(wiring))
            if len(nodes(told)) <= 10:
                self.assertEqual(cuts(told), cuts(wiring))

    def test_returned_values_go_in_again(self):
        for _, members in cells_of(NESTED, "a"):
            for member in members:
                self.assertGreater(rank_of(NESTED, member), 0)
                self.assertTrue(is_piece(NESTED, member))
        for side in strong(NESTED, "a"):
            self.assertTrue(is_piece(drawing(NESTED, "a", 17), side))
        self.assertTrue(all(is_ring(form(GATE), ring) for ring in rings(GATE)))


if __name__ == "__main__":
    unittest.main()
