"""[4] and [5] for all small wirings, against slow answers in the words of the document."""

import unittest
from itertools import combinations, product

from sameloops.rings import cut_over, cuts, is_cut, is_ring, ring_over, ring_table, rings
from sameloops.wirings import (blocks, bridged, forest, groups, is_wiring, joined_nodes, nodes, opened, parts, rank,
                               reversed_parts, same_drawing)
from tests.support import all_wirings, node_names, slow_cuts, slow_rings, small_wirings, written

WIRINGS = small_wirings()


def slow_groups(wiring):
    """All sets of nodes that no part leaves, without smaller ones in them."""
    names = node_names(wiring)
    closed = [chosen for many in range(1, len(names) + 1) for chosen in combinations(names, many)
              if all((start in chosen) == (end in chosen) for _, start, end in wiring)]
    return sorted([group for group in closed
                   if not any(set(other) < set(group) for other in closed)])


def slow_blocks(wiring, found):
    """The largest sets of parts of which any two are on one of the rings together."""
    together = {(one, other) for ring in found for one, _ in ring for other, _ in ring}
    sets = [chosen for many in range(1, len(wiring) + 1) for chosen in combinations(parts(wiring), many)
            if len(chosen) == 1 or all(pair in together for pair in combinations(chosen, 2))]
    return sorted([block for block in sets if not any(set(block) < set(other) for other in sets)])


def slow_forest(wiring, found):
    taken = []
    for part in parts(wiring):
        if not any({name for name, _ in ring} <= {*taken, part} and part in dict(ring) for ring in found):
            taken.append(part)
    return tuple(taken)


class ExhaustiveTest(unittest.TestCase):

    def test_there_are_enough(self):
        self.assertEqual(([len(all_wirings(many)) for many in range(4)], len(WIRINGS)), ([1, 2, 15, 203], 1040))
        self.assertTrue(all(is_wiring(wiring) for wiring in WIRINGS))

    def test_groups_and_rank(self):
        for wiring in WIRINGS:
            self.assertEqual(groups(wiring), slow_groups(wiring))
            self.assertEqual((nodes(wiring), rank(wiring)),
                             (tuple(node_names(wiring)), len(node_names(wiring)) - len(slow_groups(wiring))))

    def test_rings_cuts_blocks_forest(self):
        for wiring in WIRINGS:
            found = slow_rings(wiring)
            self.assertEqual((rings(wiring), cuts(wiring)), (found, slow_cuts(wiring)))
            self.assertEqual((blocks(wiring), forest(wiring)), (slow_blocks(wiring, found), slow_forest(wiring, found)))
            self.assertEqual(len(forest(wiring)), rank(wiring))

    def test_is_ring_and_is_cut_of_all_signs(self):
        for wiring in WIRINGS[::3]:
            found, others = slow_rings(wiring), slow_cuts(wiring)
            for signs in product((0, 1, -1), repeat=len(wiring)):
                thing = written(wiring, signs)
                self.assertIs(is_ring(wiring, thing), thing in found)
                self.assertIs(is_cut(wiring, thing), thing in others)

    def test_over_the_forest(self):
        for wiring in WIRINGS:
            taken, found, others = forest(wiring), slow_rings(wiring), slow_cuts(wiring)
            for part in parts(wiring):
                just = [ring for ring in found if part in dict(ring) and set(dict(ring)) <= {*taken, part}]
                self.assertEqual(ring_over(wiring, part), None if part in taken else just[0])
                just = [cut for cut in others if part in dict(cut) and not set(dict(cut)) & set(taken) - {part}]
                self.assertEqual(cut_over(wiring, part), just[0] if part in taken else None)
            self.assertEqual(len(ring_table(wiring)), len(wiring) - len(taken))

    def test_a_ring_and_a_cut_meet_as_often_in_the_same_as_in_the_opposite_direction(self):
        for wiring in WIRINGS:
            for ring in rings(wiring):
                for cut in cuts(wiring):
                    signs = [1 if way == dict(cut)[part] else -1 for part, way in ring if part in dict(cut)]
                    self.assertEqual(sum(signs), 0)

    def test_opened_and_bridged(self):
        for wiring in WIRINGS[::2]:
            for part in parts(wiring):
                left = [ring for ring in rings(wiring) if part not in dict(ring)]
                self.assertEqual(rings(opened(wiring, (part,))), left)
                left = [cut for cut in cuts(wiring) if part not in dict(cut)]
                self.assertEqual(cuts(bridged(wiring, (part,))), left)

    def test_bridged_is_joined_and_opened(self):
        for wiring in WIRINGS[::2]:
            for at, (part, start, end) in enumerate(wiring):
                joined = joined_nodes(wiring, start, end)
                self.assertEqual(bridged(wiring, (part,)), joined[:at] + joined[at + 1:])
                self.assertEqual(joined, joined_nodes(wiring, end, start))

    def test_reversed(self):
        for wiring in WIRINGS:
            self.assertEqual(rings(reversed_parts(wiring, parts(wiring))), rings(wiring))
            for part, start, end in wiring:
                other = reversed_parts(wiring, (part,))
                self.assertEqual(reversed_parts(other, (part,)), wiring)
                self.assertEqual(same_drawing(other, wiring), self.slow_same(other, wiring))

    def test_same_drawing(self):
        for many in range(3):
            for one in all_wirings(many):
                for other in all_wirings(many):
                    # Of wirings that are the same but for the names of nodes just one is there.
                    self.assertIs(same_drawing(one, other), one == other)

    def slow_same(self, one, other):
        ends, others = [node for item in one for node in item[1:]], [node for item in other for node in item[1:]]
        return all((ends[i] == ends[j]) == (others[i] == others[j]) for i in range(len(ends)) for j in range(i))


if __name__ == "__main__":
    unittest.main()
