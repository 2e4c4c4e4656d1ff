"""[5]: the class Stream, is_stream, is_drops and heights."""

import unittest
from itertools import product

from sameloops.errors import Leak, NoFit, NoPart
from sameloops.rings import Stream, heights, is_drops, is_ring, is_stream, ring_table, rings
from sameloops.wirings import groups, nodes, parts, reversed_parts
from tests.support import (EIGHT, FIVE, GATE, GROUPS, HOUSE, LOOSE, SAME_NAMES, SIDE_BY_SIDE, SQUARE, WIRINGS,
                           keeps_nodes, listed)

HUGE = 10 ** 40
MANY = tuple(sorted([(one + other, one, other) for one in "klmnopqr" for other in "klmnopqr" if one < other]))[:24]


def rowed(wiring, ring):
    """The numbers of a current 1 round the ring."""
    signs = {part: 1 if way == "along" else -1 for part, way in ring}
    return tuple([signs.get(part, 0) for part in parts(wiring)])


def mixed(wiring, counts):
    """A Stream of so many times each ring of the table."""
    amounts = [0] * len(wiring)
    for ring, many in zip(ring_table(wiring), counts):
        amounts = [amount + many * sign for amount, sign in zip(amounts, rowed(wiring, ring))]
    return Stream(wiring, tuple(amounts))


class SplitChecks(unittest.TestCase):

    def check_split(self, wiring, stream):
        told = stream.split()
        self.assertIs(type(told), list)
        left = list(stream.amounts())
        for pair in told:
            self.assertEqual((type(pair), len(pair), type(pair[1])), (tuple, 2, int))
            self.assertIs(is_ring(wiring, pair[0]), True)
            self.assertNotEqual(pair[1], 0)
            for at, sign in enumerate(rowed(wiring, pair[0])):
                # Of the same direction as the amount, so no two are of opposite ones.
                self.assertGreaterEqual(pair[1] * sign * stream.amounts()[at], 0)
                left[at] -= pair[1] * sign
        self.assertEqual(left, [0] * len(wiring))
        self.assertEqual(len({ring for ring, _ in told}), len(told))
        self.assertLessEqual(len(told), len(stream))


class ExamplesTest(unittest.TestCase):

    def test_stream(self):
        stream = Stream(HOUSE, (3, 3, 1, 5, 0, -2))
        self.assertEqual((len(stream), (stream + stream).amounts(), (stream - stream * 2) == -stream, stream.at("f")),
                         (5, (6, 6, 2, 10, 0, -4), True, -2))
        self.assertEqual(sorted(stream.split()), [
            ((("a", "along"), ("b", "along"), ("c", "along")), 1),
            ((("a", "along"), ("b", "along"), ("f", "against")), 2), ((("d", "along"),), 5)])

    def test_leak(self):
        with self.assertRaises(Leak) as caught:
            Stream(HOUSE, (1, 0, 0, 0, 0, 0))
        self.assertEqual(caught.exception.node, "m")

    def test_heights(self):
        self.assertEqual((is_drops(HOUSE, (4, -1, -3, 0, 2, 3)), heights(HOUSE, (4, -1, -3, 0, 2, 3)),
                          heights(HOUSE, (1, 0, 0, 0, 0, 0))), (True, (0, -1, 3, -2), None))


class StreamTest(SplitChecks):

    def test_empty(self):
        stream = Stream((), ())
        self.assertEqual((stream.amounts(), stream.split(), len(stream)), ((), [], 0))
        self.assertTrue(stream == -stream == stream + stream == stream * 7)

    def test_leak_at_the_least_node(self):
        for wiring, amounts, node in ((LOOSE, (1, 1, 1), "p"), (LOOSE, (0, 0, -2), "r"), (GROUPS, (1, 2, 0, 9, 0), "y"),
                                      (GROUPS, (1, 1, 3, 0, 3), "k"), (GROUPS, (2, 1, 0, 4, 1), "l"),
                                      (SIDE_BY_SIDE, (1, 2, -4, 0), "u"), (SAME_NAMES, (0, 0, 0, 1), "a"),
                                      ((("a", "k", "l"),), (HUGE,), "k"),
                                      (SIDE_BY_SIDE, (HUGE, 1, -HUGE, 0), "u")):
            with self.subTest(wiring), self.assertRaises(Leak) as caught:
                Stream(wiring, amounts)
            self.assertEqual(caught.exception.node, node)

    def test_a_part_that_ends_where_it_starts_keeps_the_nodes(self):
        stream = Stream((("a", "k", "k"), ("b", "k", "l")), (-8, 0))
        self.assertEqual((stream.split(), len(stream)), ([((("a", "along"),), -8)], 1))

    def test_at(self):
        stream = Stream(SAME_NAMES, (4, 4, 4, 0))
        self.assertEqual([stream.at(part) for part in "abcd"], [4, 4, 4, 0])
        for part in ("e", "aa", "k"):
            with self.assertRaises(NoPart) as caught:
                stream.at(part)
            self.assertEqual(caught.exception.part, part)
        with self.assertRaises(NoPart):
            Stream((), ()).at("a")

    def test_signs(self):
        one, other = mixed(GATE, (3, -1, 2)), mixed(GATE, (-3, 4, 0))
        self.assertEqual((one + other).amounts(), tuple([a + b for a, b in zip(one.amounts(), other.amounts())]))
        self.assertEqual((one - other).amounts(), tuple([a - b for a, b in zip(one.amounts(), other.amounts())]))
        self.assertEqual((-one).amounts(), tuple([-a for a in one.amounts()]))
        for many in (0, 1, -1, 5, -HUGE):
            self.assertEqual((one * many).amounts(), tuple([a * many for a in one.amounts()]))
        self.assertTrue(one + other == other + one == mixed(GATE, (0, 3, 2)))
        self.assertTrue(one - one == one * 0 == Stream(GATE, (0,) * 6))
        for thing in (one + other, one - other, -one, one * 3):
            self.assertIs(type(thing), Stream)
            self.assertIs(type(thing.amounts()), tuple)

    def test_signs_change_no_stream(self):
        stream = mixed(GATE, (3, -1, 2))
        kept, amounts = stream, stream.amounts()
        stream += mixed(GATE, (1, 1, 1))
        self.assertTrue(stream == mixed(GATE, (4, 0, 3)) and stream is not kept)
        stream -= kept
        self.assertTrue(stream == mixed(GATE, (1, 1, 1)))
        stream *= -2
        self.assertTrue(stream == mixed(GATE, (-2, -2, -2)))
        self.assertEqual(kept.amounts(), amounts)

    def test_no_fit(self):
        stream = Stream(GATE, (0,) * 6)
        for other in (Stream(HOUSE, (0,) * 6), Stream(reversed_parts(GATE, ("a",)), (0,) * 6), Stream((), ()),
                      Stream(GATE[:5], (0,) * 5)):
            for deed in (lambda: stream + other, lambda: stream - other, lambda: other + stream):
                with self.assertRaises(NoFit) as caught:
                    deed()
                self.assertEqual(vars(caught.exception), {})
        self.assertEqual(stream.amounts(), (0,) * 6)

    def test_no_fit_for_other_names_of_nodes(self):
        one, other = Stream((("a", "k", "k"),), (1,)), Stream((("a", "l", "l"),), (1,))
        with self.assertRaises(NoFit):
            one - other
        self.assertFalse(one == other)

    def test_length(self):
        rows = ((0, 0, 0), (1, 0, 0), (1, -1, 0), (1, 1, 0))
        self.assertEqual([len(mixed(GATE, counts)) for counts in rows], [0, 3, 3, 5])
        self.assertEqual(len(Stream(SIDE_BY_SIDE, (-1, HUGE, 0, 1 - HUGE))), 3)

    def test_equal(self):
        stream = Stream(GATE, (0,) * 6)
        self.assertTrue(stream == Stream(listed(GATE), [0] * 6))
        self.assertFalse(stream != Stream(GATE, (0,) * 6))
        for other in (Stream(HOUSE, (0,) * 6), mixed(GATE, (0, 0, 1)), (0,) * 6, [0] * 6, GATE, None, 0, True, False,
                      "", (GATE, (0,) * 6), object()):
            self.assertIs(stream == other, False)
            self.assertIs(other == stream, False)
            self.assertIs(stream != other, True)

    def test_arguments_are_copied(self):
        wiring, amounts = listed(SQUARE), [1, 1, -1, 0]
        stream = Stream(wiring, amounts)
        wiring[0][1] = "z"
        wiring.pop()
        amounts[0] = 9
        self.assertEqual((stream.amounts(), stream.at("d"), stream.split()),
                         ((1, 1, -1, 0), 0, [((("a", "along"), ("b", "along"), ("c", "against")), 1)]))
        self.assertTrue(stream == Stream(SQUARE, (1, 1, -1, 0)))

    def test_told_things_are_new(self):
        stream = mixed(GATE, (1, 2, 3))
        told = stream.split()
        stream.split().clear()
        stream.split().append(None)
        self.assertEqual(stream.split(), told)

    def test_split(self):
        for wiring in [*WIRINGS, FIVE, MANY]:
            free = len(ring_table(wiring))
            for row in ((1,), (1, -2), (3, 5, 7, -11), (HUGE, -HUGE, 1), (0, 4, 0, -1, 2), tuple(range(-8, 9))):
                with self.subTest(wiring=wiring, row=row):
                    self.check_split(wiring, mixed(wiring, (row * free)[:free]))

    def test_split_of_one_ring(self):
        for wiring in WIRINGS:
            for ring in rings(wiring):
                for many in (1, -1, HUGE, -12):
                    self.assertEqual((Stream(wiring, rowed(wiring, ring)) * many).split(), [(ring, many)])

    def test_split_of_small_ones(self):
        for wiring, numbers in ((HOUSE, (-2, 0, 1)), (SQUARE, (-3, -1, 0, 2)), (EIGHT, (-1, 0, 2)),
                                (GATE, (-2, -1, 0, 1)), (SIDE_BY_SIDE, (-3, -2, -1, 0, 1, 2))):
            for amounts in product(numbers, repeat=len(wiring)):
                if keeps_nodes(wiring, amounts):
                    self.check_split(wiring, Stream(wiring, amounts))


class IsStreamTest(unittest.TestCase):

    def test_small_ones(self):
        for wiring in (HOUSE, SQUARE, GATE, GROUPS, SIDE_BY_SIDE, ()):
            for amounts in product((-1, 0, 1), repeat=len(wiring)):
                self.assertIs(is_stream(wiring, amounts), keeps_nodes(wiring, amounts))

    def test_large_numbers(self):
        self.assertIs(is_stream(SIDE_BY_SIDE, (HUGE, -HUGE, 0, 0)), True)
        self.assertIs(is_stream(SIDE_BY_SIDE, (HUGE, 1 - HUGE, 0, 0)), False)

    def test_other_kinds(self):
        self.assertIs(is_stream(SQUARE, (1, 1, -1, 0)), True)
        for thing in ([1, 1, -1, 0], (True, 1, -1, 0), (1, 1, -1, False), (1, 1, -1), (1, 1, -1, 0, 0),
                      (1, 1, -1, None), (1, 1, -1, "0"), (1, 1, -1, ()), ((1, 1, -1, 0),), (1, 1, -1, (0,)), (), None,
                      True, False, 0, "", "abcd", [[1], [1], [-1], [0]], (False, False, False, False)):
            with self.subTest(thing=thing):
                self.assertIs(is_stream(SQUARE, thing), False)
        self.assertEqual([is_stream((), thing) for thing in ((), [], None, (0,), False, "", 0)], [True] + [False] * 6)


class DropsTest(unittest.TestCase):

    def check_heights(self, wiring, drops):
        told = heights(wiring, drops)
        self.assertEqual((type(told), len(told)), (tuple, len(nodes(wiring))))
        height = dict(zip(nodes(wiring), told))
        self.assertEqual(tuple([height[start] - height[end] for _, start, end in wiring]), tuple(drops))
        self.assertEqual([height[group[0]] for group in groups(wiring)], [0] * len(groups(wiring)))
        self.assertTrue(all(type(number) is int for number in told))

    def test_differences_of_heights(self):
        for wiring in [*WIRINGS, FIVE, MANY]:
            for step in (1, 7, -3, HUGE):
                height = {node: step * at * at - at for at, node in enumerate(nodes(wiring))}
                drops = tuple([height[start] - height[end] for _, start, end in wiring])
                self.check_heights(wiring, drops)
                self.assertIs(is_drops(wiring, drops), True)

    def test_small_ones(self):
        for wiring in (HOUSE, SQUARE, GROUPS, EIGHT, SAME_NAMES):
            for drops in product((-1, 0, 2), repeat=len(wiring)):
                around = [sum([amount * sign for amount, sign in zip(drops, rowed(wiring, ring))])
                          for ring in rings(wiring)]
                right = not any(around)
                self.assertIs(is_drops(wiring, drops), right)
                if right:
                    self.check_heights(wiring, drops)
                else:
                    self.assertIsNone(heights(wiring, drops))

    def test_ordinary(self):
        self.assertEqual((heights((), ()), heights(LOOSE, (1, 2, 3)), heights(LOOSE, [-HUGE, 0, 1])),
                         ((), (0, -1, -3, -6), (0, HUGE, HUGE, HUGE - 1)))
        self.assertEqual(heights(GROUPS, (5, -5, 2, 0, -1)), (0, -2, -1, 0, 0, 5))
        self.assertEqual((heights(SIDE_BY_SIDE, (HUGE,) * 4), heights(SIDE_BY_SIDE, (HUGE,) * 3 + (HUGE + 1,))),
                         ((0, -HUGE), None))

    def test_a_part_that_ends_where_it_starts_has_no_voltage(self):
        self.assertEqual((heights((("a", "k", "k"),), (0,)), heights((("a", "k", "k"),), (1,))), ((0,), None))
        self.assertEqual((is_drops((("a", "k", "k"),), (0,)), is_drops((("a", "k", "k"),), (-1,))), (True, False))

    def test_other_kinds(self):
        self.assertIs(is_drops(LOOSE, (1, 2, 3)), True)
        for thing in ([1, 2, 3], (True, 2, 3), (1, 2, False), (1, 2), (1, 2, 3, 4), (1, 2, None), (1, 2, "3"),
                      (1, 2, (3,)), ((1, 2, 3),), (), None, True, False, 0, "", "abc", (1, 2, [])):
            with self.subTest(thing=thing):
                self.assertIs(is_drops(LOOSE, thing), False)
        self.assertEqual([is_drops((), thing) for thing in ((), [], None, (0,), False, "", 0)], [True] + [False] * 6)


if __name__ == "__main__":
    unittest.main()
