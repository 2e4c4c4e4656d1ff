"""[9] for all wirings of few parts, against what all their RINGs and CUTs say."""

import unittest
from functools import lru_cache
from itertools import product

from sameloops.rings import is_drops, is_stream
from sameloops.settle import (always_zero, blinding, cheapest_meters, completed, contradiction, equal, is_sum,
                              least_meters, many_meter_sets, mates, meter_sets, names_one_wrong, possible, settled,
                              settles_all, shows_one_wrong, spare, sum_for, suspects, unsettled)
from sameloops.wirings import parts
from tests.support import all_wirings, slow_cuts, slow_rings, subsets

WIRINGS = [*all_wirings(0), *all_wirings(1), *all_wirings(2), *all_wirings(3), *all_wirings(4)[::23],
           *all_wirings(5)[::1999]]
SIGNS = {"along": 1, "against": -1}


def left(names, gone):
    return tuple([name for name in names if name not in gone])


class Told:
    """What the RINGs and CUTs say of the currents or of the voltages of one wiring."""

    def __init__(self, wiring, what):
        self.wiring, self.what, self.names = wiring, what, parts(wiring)
        found = (slow_rings(wiring), slow_cuts(wiring))
        # Each current is a sum of RINGs, and 0 over each CUT; each voltage a sum of CUTs, and 0 round each RING.
        self.moves, self.ties = found if what == "current" else found[::-1]
        self.rows = {name: [SIGNS.get(dict(move).get(name), 0) for move in self.moves] for name in self.names}

    def settled(self, known):
        return tuple([name for name in self.names if name in known or any(
            name in dict(tie) and set(dict(tie)) <= {*known, name} for tie in self.ties)])

    def settles_all(self, known):
        return self.settled(known) == self.names

    def is_sum(self, part, signs):
        return self.rows[part] == [sum([sign * self.rows[name][at] for name, sign in signs])
                                   for at in range(len(self.moves))]

    def sizes(self, known, part):
        """The numbers of parts of all sums over known that the number at the part is."""
        rows = [[(name, sign) for name, sign in zip(known, signs) if sign]
                for signs in product((0, 1, -1), repeat=len(known))]
        return [len(row) for row in rows if self.is_sum(part, row)]

    def possible(self, known, amounts):
        amount = dict(zip(known, amounts))
        return not any(set(dict(tie)) <= set(known) and sum([SIGNS[way] * amount[name] for name, way in tie])
                       for tie in self.ties)

    def least_blinding(self, known):
        return min([len(set(dict(move)) & set(known)) for move in self.moves])


@lru_cache(maxsize=None)
def told_of(wiring, what):
    return Told(wiring, what)


class ExhaustiveSettleTest(unittest.TestCase):

    def each(self, step=1):
        for wiring in WIRINGS[::step]:
            for what in ("current", "voltage"):
                yield wiring, what, told_of(wiring, what)

    def each_known(self, step=1):
        for wiring, what, told in self.each(step):
            for known in subsets(told.names):
                yield wiring, what, told, known

    def test_settled(self):
        for wiring, what, told, known in self.each_known():
            self.assertEqual(settled(wiring, what, known), told.settled(known))
            self.assertEqual(settles_all(wiring, what, known), told.settles_all(known))
            self.assertEqual(always_zero(wiring, what), told.settled(()))

    def test_sum_for(self):
        for wiring, what, told, known in self.each_known(2):
            for part in told.names:
                row, sizes = sum_for(wiring, what, known, part), told.sizes(known, part)
                self.assertEqual(row is None, part not in told.settled(known))
                self.assertEqual(None if row is None else len(row), min(sizes, default=None))
                if row is not None:
                    self.assertTrue(told.is_sum(part, row))
                    self.assertTrue({name for name, _ in row} <= set(known))
                    self.assertIs(is_sum(wiring, what, part, row), True)

    def test_is_sum_of_all_signs(self):
        for wiring, what, told in self.each(3):
            for signs in product((0, 1, -1), repeat=len(wiring)):
                row = tuple([(name, sign) for name, sign in zip(told.names, signs) if sign])
                for part in told.names:
                    self.assertIs(is_sum(wiring, what, part, row), told.is_sum(part, row))

    def test_unsettled(self):
        for wiring, what, told, known in self.each_known():
            for part in told.names:
                move = unsettled(wiring, what, known, part)
                self.assertEqual(move is None, part in told.settled(known))
                if move is not None:
                    self.assertIn(move, told.moves)
                    self.assertIn(part, dict(move))
                    self.assertFalse(set(dict(move)) & set(known))

    def test_equal_and_mates(self):
        for wiring, what, told in self.each():
            rows = told.rows
            sets = set()
            for part in told.names:
                for other in told.names:
                    opposite = [-sign for sign in rows[other]]
                    sign = 1 if rows[part] == rows[other] else -1 if rows[part] == opposite else None
                    self.assertEqual(equal(wiring, what, part, other), sign)
                if any(rows[part]):
                    sets.add(tuple([name for name in told.names
                                    if rows[name] in (rows[part], [-sign for sign in rows[part]])]))
            self.assertEqual(mates(wiring, what), sorted([names for names in sets if len(names) > 1]))

    def test_meters(self):
        for wiring, what, told in self.each():
            full = [names for names in subsets(told.names) if told.settles_all(names)]
            many = min([len(names) for names in full])
            sets = [names for names in full if len(names) == many]
            self.assertEqual((least_meters(wiring, what), meter_sets(wiring, what)), (many, sorted(sets)))
            self.assertEqual(many_meter_sets(wiring), len(sets))
            for prices in product((-1, 0, 2), repeat=len(wiring)):
                price = dict(zip(told.names, prices))
                told_set = cheapest_meters(wiring, what, prices)
                self.assertEqual(told_set, min(sets, key=lambda names: (sum([price[name] for name in names]), names)))

    def test_spare_and_blinding(self):
        for wiring, what, told, known in self.each_known():
            many, blind = spare(wiring, what, known), blinding(wiring, what, known)
            if told.settles_all(()):
                self.assertEqual((many, blind), (None, None))
            elif not told.settles_all(known):
                self.assertEqual((many, blind), (-1, ()))
            else:
                # So many can be taken away, whichever they are, but not the blinding ones.
                self.assertTrue(all(told.settles_all(left(known, gone)) for gone in subsets(known)
                                    if len(gone) <= many))
                self.assertFalse(told.settles_all(left(known, blind)))
                self.assertEqual((len(blind), many + 1), (told.least_blinding(known),) * 2)
                self.assertTrue(set(blind) <= set(known))

    def test_amounts(self):
        for wiring, what, told, known in self.each_known(5):
            for amounts in product((0, 1, -2), repeat=min(len(known), 3)):
                self.check_amounts(wiring, told, known, amounts + (1,) * (len(known) - len(amounts)))

    def check_amounts(self, wiring, told, known, amounts):
        what, right = told.what, told.possible(known, amounts)
        self.assertIs(possible(wiring, what, known, amounts), right)
        whole, tie = completed(wiring, what, known, amounts), contradiction(wiring, what, known, amounts)
        if right:
            self.assertIsNone(tie)
            self.assertTrue((is_stream if what == "current" else is_drops)(wiring, whole))
            self.assertEqual([whole[told.names.index(name)] for name in known], list(amounts))
        else:
            self.assertIsNone(whole)
            self.assertIn(tie, told.ties)
            self.assertTrue(set(dict(tie)) <= set(known))
            self.assertNotEqual(sum([SIGNS[way] * amounts[known.index(name)] for name, way in tie]), 0)
        self.assertEqual(suspects(wiring, what, known, amounts), tuple([
            name for at, name in enumerate(known)
            if told.possible(known[:at] + known[at + 1:], amounts[:at] + amounts[at + 1:])]))

    def test_one_wrong_meter(self):
        for wiring, what, told, known in self.each_known():
            shown = all(part in told.settled(left(known, (part,))) for part in known)
            named = all(part in told.settled(left(known, (part, other))) for part in known for other in known)
            self.assertIs(shows_one_wrong(wiring, what, known), shown)
            self.assertIs(names_one_wrong(wiring, what, known), named)

    def test_what_a_wrong_meter_does(self):
        for wiring, what, told, known in self.each_known(5):
            right = [0] * len(known)
            for at in range(len(known)):
                wrong = tuple(right[:at] + [1] + right[at + 1:])
                if shows_one_wrong(wiring, what, known):
                    self.assertIs(possible(wiring, what, known, wrong), False)
                if names_one_wrong(wiring, what, known):
                    self.assertEqual(suspects(wiring, what, known, wrong), known[at:at + 1])


if __name__ == "__main__":
    unittest.main()
