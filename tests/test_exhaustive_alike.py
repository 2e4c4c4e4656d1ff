"""[6], [7] and [8] for all wirings of few parts, against counts and answers in the words of the document."""

import unittest

from sameloops.alike import (alike, alike_if_bridged, alike_without, grouped, is_unlike, is_unlike_cut, least_unlike,
                             unlike, unlike_cut)
from sameloops.forms import cells_of, drawing, drawings, form, how_many, number_of
from sameloops.turns import are_turns, drawn_alike, is_piece, turned, turned_all, turns_to
from sameloops.wirings import blocks, bridged, groups, is_wiring, only, opened, parts
from tests.support import families, plain, slow_cuts, slow_rings, subsets

FAMILIES = {many: families(many) for many in range(5)}


def slow_drawn_alike(one, other):
    return blocks(one) == blocks(other) and all(
        plain(only(one, names)) == plain(only(other, names)) for names in blocks(one))


class FamiliesTest(unittest.TestCase):

    def test_there_are_enough(self):
        self.assertEqual([len(found) for found in FAMILIES.values()], [1, 2, 6, 28, 204])
        self.assertEqual(sum([len(family) for family in FAMILIES[4]]), 4140)

    def test_alike_exactly_in_one_family(self):
        for many in range(4):
            firsts = [family[0] for family in FAMILIES[many]]
            for at, family in enumerate(FAMILIES[many]):
                for wiring in family:
                    self.assertEqual([alike(first, wiring) for first in firsts],
                                     [place == at for place in range(len(firsts))])

    def test_the_same_cuts_exactly_in_one_family(self):
        for many in range(5):
            tables = [{tuple(slow_cuts(wiring)) for wiring in family[::3]} for family in FAMILIES[many]]
            self.assertEqual({len(table) for table in tables}, {1})
            self.assertEqual(len(set.union(*tables)), len(tables))

    def test_grouped(self):
        for at in range(0, 204, 6):
            firsts = [family[0] for family in FAMILIES[4][at:at + 6]]
            lasts = [family[-1] for family in FAMILIES[4][at:at + 6]]
            self.assertEqual(grouped(firsts + lasts), tuple([(place, place + 6) for place in range(6)]))

    def test_forms(self):
        for many in range(5):
            forms = [{form(wiring) for wiring in family} for family in FAMILIES[many]]
            self.assertEqual({len(found) for found in forms}, {1})
            self.assertEqual(len(set.union(*forms)), len(forms))
            for family, found in zip(FAMILIES[many], forms):
                told = min(found)
                self.assertTrue(is_wiring(told))
                self.assertTrue(alike(told, family[0]))


class UnlikeTest(unittest.TestCase):

    def pairs(self):
        for many in range(4):
            for one in FAMILIES[many]:
                for other in FAMILIES[many]:
                    yield one[0], other[-1]
        for at in range(204):
            for step in (1, 5, 27):
                yield FAMILIES[4][at][-1], FAMILIES[4][(at + step) % 204][0]

    def test_pairs(self):
        for one, other in self.pairs():
            self.check(one, other, unlike(one, other), slow_rings, is_unlike)
            self.check(one, other, unlike_cut(one, other), slow_cuts, is_unlike_cut)
            told = least_unlike(one, other)
            if told is None:
                self.assertTrue(alike(one, other))
            else:
                mine, its = slow_rings(one), slow_rings(other)
                found = [(0, ring) for ring in mine if ring not in its]
                found += [(1, ring) for ring in its if ring not in mine]
                self.assertEqual(told, min(found, key=lambda pair: (len(pair[1]), pair[1])))

    def check(self, one, other, told, listing, is_told):
        if told is None:
            self.assertEqual(listing(one), listing(other))
        else:
            having, lacking = (one, other) if told[0] == 0 else (other, one)
            self.assertIn(told[1], listing(having))
            self.assertNotIn(told[1], listing(lacking))
            self.assertIs(is_told(one, other, told), True)

    def test_fewest(self):
        for one in FAMILIES[3]:
            for other in FAMILIES[3]:
                for call, taking in ((alike_without, opened), (alike_if_bridged, bridged)):
                    fitting = [names for names in subsets("abc")
                               if slow_rings(taking(one[0], names)) == slow_rings(taking(other[0], names))]
                    self.assertEqual(call(one[0], other[0]), min(fitting, key=lambda names: (len(names), names)))


class TurnsTest(unittest.TestCase):

    def test_turns_lead_to_all_alike_ones(self):
        for many in range(5):
            for family in FAMILIES[many]:
                for wiring in family:
                    told = turns_to(family[-1], wiring)
                    self.assertTrue(slow_drawn_alike(turned_all(family[-1], told), wiring))
                    self.assertIs(are_turns(family[-1], wiring, told), True)

    def test_drawn_alike(self):
        for many in range(5):
            for family in FAMILIES[many]:
                for one in family[:20]:
                    self.assertEqual(drawn_alike(one, family[0]), slow_drawn_alike(one, family[0]))
                    self.assertEqual(are_turns(one, family[0], ()), slow_drawn_alike(one, family[0]))

    def test_unlike_ones_have_none(self):
        for at in range(204):
            self.assertIsNone(turns_to(FAMILIES[4][at][0], FAMILIES[4][at - 1][0]))
            self.assertIs(drawn_alike(FAMILIES[4][at][0], FAMILIES[4][at - 1][0]), False)

    def test_pieces_keep_the_rings(self):
        for family in FAMILIES[4]:
            wiring = family[len(family) // 2]
            for piece in [piece for piece in subsets(parts(wiring)) if is_piece(wiring, piece)]:
                self.assertEqual(slow_rings(turned(wiring, piece)), slow_rings(wiring))


class CountsTest(unittest.TestCase):

    def test_how_many(self):
        for many in range(5):
            for family in FAMILIES[many]:
                # Of wirings that are the same but for the names of nodes just one is in a family.
                told = len([wiring for wiring in family if len(groups(wiring)) <= 1])
                self.assertEqual((how_many(family[0]), how_many(family[-1])), (told, told))

    def test_drawings(self):
        for many in range(5):
            for family in FAMILIES[many]:
                for block in blocks(family[0]):
                    seen = {plain(only(wiring, block)) for wiring in family}
                    found = [drawing(family[0], block[0], number) for number in range(drawings(family[0], block[-1]))]
                    self.assertEqual({plain(one) for one in found}, seen)
                    self.assertEqual(len(found), len(seen))
                    for wiring in family[::7]:
                        self.assertEqual([drawing(wiring, block[-1], number) for number in range(len(found))], found)
                        self.assertEqual(plain(found[number_of(wiring, block[0])]), plain(only(wiring, block)))

    def test_cells_are_the_same(self):
        for many in range(5):
            for family in FAMILIES[many]:
                for part in parts(family[0]):
                    self.assertEqual(cells_of(family[0], part), cells_of(family[-1], part))


if __name__ == "__main__":
    unittest.main()
