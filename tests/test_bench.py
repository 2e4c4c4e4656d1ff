"""[12]: the bench."""

import unittest
from fractions import Fraction

from sameloops.alike import alike, test_of
from sameloops.bench import (bench, cross, cross_states, freedom, is_rule_row, is_state, is_state_row, possible_states,
                             power, same_states, seen, some_state)
from sameloops.errors import NoPart, NoRing, OtherParts
from sameloops.rings import rings
from sameloops.turns import turned
from sameloops.wirings import parts, reversed_parts
from tests import exact
from tests.support import (GATE, GROUPS, HOUSE, LOOP, NESTED, ONE, OTHER, ROUND, SQUARE, THIRD, TURNED_SQUARE, WIRINGS,
                           all_wirings, deep, families, listed, scattered, small_wirings)

RULES = (("a", ("resistor", 1)), ("b", ("resistor", 2)), ("c", ("resistor", 1)), ("d", ("battery", -6)),
         ("e", ("resistor", 2)))
PAIR = (("x", "k", "l"), ("y", "l", "k"))
LONE = (("a", "k", "l"),)
# All seven kinds, with small numbers, also such that contradict one another.
KINDS = (("resistor", 1), ("battery", 2), ("source", 3), ("open",), ("short",), ("any",), ("line", 1, 1, 3),
         ("resistor", 2), ("battery", -1), ("source", 0), ("line", -2, 4, 1), ("line", 0, -3, 5), ("line", 2, 0, -6),
         ("battery", 0), ("line", 1, -1, 0), ("line", 3, -2, 0))
BIG = 10 ** 40


def rule_rows(wiring, many, first=0):
    """RULE ROWs of the wiring, so many, with all kinds in turns."""
    for seed in range(first, first + many):
        picks = [(seed * 7 + at * (seed // 5 + 3) + at * at) % len(KINDS) for at in range(len(wiring))]
        yield tuple([(item[0], KINDS[pick]) for item, pick in zip(wiring, picks)])


def anything(wiring):
    return tuple([(item[0], ("any",)) for item in wiring])


def pairs_of(rows):
    """The pairs of fractions of a STATE ROW."""
    return [(Fraction(*current), Fraction(*voltage)) for _, current, voltage in rows]


class ExamplesTest(unittest.TestCase):

    def test_bench(self):
        told = (("a", (2, 1), (2, 1)), ("b", (1, 1), (2, 1)), ("c", (2, 1), (2, 1)), ("d", (2, 1), (-6, 1)),
                ("e", (1, 1), (2, 1)))
        self.assertEqual(bench(ONE, RULES), told)
        self.assertEqual((same_states(ONE, OTHER, RULES), same_states(ONE, THIRD, RULES), freedom(ONE, RULES),
                          power(bench(ONE, RULES)), seen(ONE, RULES, "b"), seen(ONE, RULES, "d")),
                         (True, False, 0, (0, 1), ("line", 1, 1, 3), ("line", 3, 1, 0)))

    def test_of_a_ring(self):
        test = test_of(ONE, (("b", "along"), ("e", "against")))
        self.assertEqual((bench(ONE, test), bench(THIRD, test), freedom(ONE, test)),
                         ((("a", (0, 1), None), ("b", (1, 1), (-1, 1)), ("c", (0, 1), None), ("d", (0, 1), None),
                           ("e", (-1, 1), (-1, 1))), None, 2))

    def test_batteries_and_sources(self):
        self.assertIsNone(bench(PAIR, (("x", ("battery", 1)), ("y", ("battery", 2)))))
        self.assertEqual(bench(PAIR, (("x", ("battery", 1)), ("y", ("battery", -1)))),
                         (("x", None, (1, 1)), ("y", None, (-1, 1))))
        self.assertEqual(seen(PAIR, (("x", ("any",)), ("y", ("source", 3))), "x"), ("line", 1, 0, 3))

    def test_rows(self):
        self.assertEqual(possible_states(PAIR, (("x", ((1, 5), (2, 3))), ("y", ((1, -5), (2, 4))))), ((0, 0),))
        half = (("x", (1, 2), (0, 1)), ("y", (1, 2), (0, 1)))
        self.assertIs(is_state(PAIR, (("x", ("any",)), ("y", ("short",))), half), True)
        self.assertEqual(cross(half, (("x", (0, 1), (3, 1)), ("y", (0, 1), (-3, 1)))), (0, 1))

    def test_error(self):
        with self.assertRaises(NoPart) as caught:
            seen(PAIR, anything(PAIR), "z")
        self.assertEqual(caught.exception.part, "z")


class ThingsTest(unittest.TestCase):

    def test_rules_of_all_kinds(self):
        for rule in [*KINDS, ("resistor", BIG), ("battery", -BIG ** 9), ("line", 0, 0 - BIG, BIG), ("line", BIG, 0, 0)]:
            with self.subTest(rule=rule):
                self.assertIs(is_rule_row(LONE, (("a", rule),)), True)
                self.assertIs(is_rule_row(listed(LONE), (("a", rule),)), True)

    def test_what_is_no_rule(self):
        for rule in (("resistor", 0), ("resistor", -1), ("resistor",), ("resistor", 1, 1), ("resistor", True),
                     ("resistor", "1"), ("resistor", None), ("resistor", (1,)), ("battery",), ("battery", False),
                     ("battery", 1, 2), ("source",), ("source", True), ("source", (1, 1)), ("open", 0), ("short", 0),
                     ("any", 0), ("open", None), ("line", 0, 0, 0), ("line", 0, 0, 1), ("line", 1, 1),
                     ("line", 1, 1, 1, 1), ("line", True, 0, 0), ("line", 0, True, 0), ("line", 1, 0, False),
                     ("line", (1, 0, 0)), ("Open",), ("opened",), ("",), ("resistors", 1), (), (1,), (None,), (True, 1),
                     (["open"],), (("open",),), (("resistor", 1),), ["open"], ["resistor", 1], "open", "any", None, 1,
                     True, (1, "resistor"), ("line", 1, 0, [0]), ([], 1), ({"open": 1}.get("x"),), deep(1)):
            with self.subTest(rule=rule):
                self.assertIs(is_rule_row(LONE, (("a", rule),)), False)

    def test_rule_rows(self):
        good = tuple([(part, ("any",)) for part in parts(SQUARE)])
        self.assertIs(is_rule_row(SQUARE, good), True)
        for thing in (good[:3], good[1:], good[::-1], good + good[-1:], good[:1] + good, list(good), listed(good),
                      good + (("e", ("any",)),), tuple([list(pair) for pair in good]), good[0], parts(SQUARE), (), [],
                      None, True, 0, "a", ((),) * 4, tuple([(part,) for part in parts(SQUARE)]),
                      tuple([pair + (0,) for pair in good]), tuple([pair[::-1] for pair in good]), (good,), deep(()),
                      tuple([(part, ["any"]) for part in parts(SQUARE)]), dict(good).get("z"),
                      (good[1], good[0], good[2], good[3]), ("ab", "bc", "cd", "de"), (0, 1, 2, 3)):
            with self.subTest(thing=thing):
                self.assertIs(is_rule_row(SQUARE, thing), False)
        self.assertEqual((is_rule_row((), ()), is_rule_row((), []), is_rule_row((), good)), (True, False, False))

    def test_fractions(self):
        for pair in ((0, 1), (1, 1), (-1, 1), (1, 2), (-3, 2), (BIG, BIG + 1), (-BIG ** 9, 1)):
            self.assertIs(is_state_row(LONE, (("a", pair, (0, 1)),)), True)
            self.assertIs(is_state_row(listed(LONE), (("a", (0, 1), pair),)), True)
        for pair in ((0, 2), (2, 2), (2, 4), (1, 0), (0, 0), (1, -1), (-1, -2), (0, -1), (True, 1), (1, True), (1,),
                     (1, 1, 1), [1, 1], (1, "1"), (None, 1), None, 1, "ab", (), ((1, 1), 1), (BIG, 5), True, deep(1)):
            with self.subTest(pair=pair):
                self.assertIs(is_state_row(LONE, (("a", pair, (0, 1)),)), False)
                self.assertIs(is_state_row(LONE, (("a", (0, 1), pair),)), False)

    def test_state_rows(self):
        good = tuple([(part, (1, 2), (-5, 3)) for part in parts(SQUARE)])
        self.assertIs(is_state_row(SQUARE, good), True)
        for thing in (good[:3], good[1:], good[::-1], good + good[-1:], list(good), listed(good), (), None, True, 7,
                      "abcd", tuple([list(row) for row in good]), tuple([row[:2] for row in good]),
                      tuple([row + ((0, 1),) for row in good]), tuple([(row[0], list(row[1]), row[2]) for row in good]),
                      tuple([(row[1], row[0], row[2]) for row in good]), good[0], ((),) * 4, deep(()),
                      tuple([(row[0], None, row[2]) for row in good]), good[:3] + (("e", (0, 1), (0, 1)),)):
            with self.subTest(thing=thing):
                self.assertIs(is_state_row(SQUARE, thing), False)
        self.assertEqual((is_state_row((), ()), is_state_row((), [])), (True, False))


class StatesTest(unittest.TestCase):

    def check(self, wiring, rules):
        told = bench(wiring, rules)
        self.assertEqual(told, exact.bench(wiring, rules))
        self.assertEqual(freedom(wiring, rules), exact.freedom(wiring, rules))
        row = some_state(wiring, rules)
        self.assertEqual(row is None, told is None)
        if row is not None:
            self.assertTrue(is_state_row(wiring, row))
            self.assertIs(is_state(wiring, rules, row), True)
            self.assertTrue(exact.keeps(wiring, rules, pairs_of(row)))
            self.assertEqual(power(row), (0, 1))
        for part in parts(wiring):
            self.assertEqual(seen(wiring, rules, part), exact.seen(wiring, rules, part))

    def test_small_wirings(self):
        for at, wiring in enumerate(small_wirings()[::3]):
            for rules in rule_rows(wiring, 2, 3 * at):
                with self.subTest(wiring=wiring, rules=rules):
                    self.check(wiring, rules)

    def test_greater_wirings(self):
        for wiring in (*WIRINGS, ONE, NESTED, scattered(9, 5, 1), scattered(12, 6, 2)):
            for rules in rule_rows(wiring, 4):
                with self.subTest(wiring=wiring, rules=rules):
                    self.check(wiring, rules)

    def test_none_one_and_many(self):
        found = [freedom(wiring, rules) for wiring in all_wirings(2) for rules in rule_rows(wiring, 60)]
        self.assertEqual(set(found), {None, 0, 1, 2})

    def test_without_parts(self):
        self.assertEqual((bench((), ()), some_state((), ()), freedom((), ()), is_state((), (), ()), power(())),
                         ((), (), 0, True, (0, 1)))
        self.assertEqual((same_states((), (), ()), possible_states((), ()), cross((), ()), cross_states((), ())),
                         (True, ((),), (0, 1), None))

    def test_by_hand(self):
        # A battery over two resistors in a row; nothing is settled at a ring of shorts.
        self.assertEqual(bench(LOOP, (("a", ("battery", 7)), ("b", ("resistor", 2)), ("c", ("resistor", 4)))),
                         (("a", (-7, 6), (7, 1)), ("b", (-7, 6), (-7, 3)), ("c", (-7, 6), (-14, 3))))
        self.assertEqual(bench(LOOP, tuple([(part, ("short",)) for part in "abc"])),
                         tuple([(part, None, (0, 1)) for part in "abc"]))
        self.assertEqual(freedom(LOOP, tuple([(part, ("any",)) for part in "abc"])), 3)
        self.assertEqual(bench(LOOP, (("a", ("open",)), ("b", ("battery", 1)), ("c", ("battery", 1)))),
                         (("a", (0, 1), (-2, 1)), ("b", (0, 1), (1, 1)), ("c", (0, 1), (1, 1))))
        self.assertIsNone(bench(LOOP, (("a", ("source", 1)), ("b", ("source", 1)), ("c", ("source", 2)))))
        # A part on no ring lets no current, one whose start is its end has no voltage.
        self.assertEqual(bench(GROUPS, (("a", ("resistor", 3)), ("b", ("battery", 6)), ("c", ("battery", 5)),
                                        ("d", ("source", 4)), ("e", ("line", 3, 5, 2)))),
                         (("a", (-2, 1), (-6, 1)), ("b", (-2, 1), (6, 1)), ("c", (0, 1), (5, 1)),
                          ("d", (4, 1), (0, 1)), ("e", (0, 1), (2, 5))))
        self.assertIsNone(bench((("a", "k", "k"),), (("a", ("battery", 1)),)))
        self.assertIsNone(bench(LONE, (("a", ("source", 1)),)))

    def test_numbers_of_forty_digits(self):
        rules = (("a", ("battery", BIG)), ("b", ("resistor", BIG)), ("c", ("resistor", BIG + 1)))
        told = bench(LOOP, rules)
        self.assertEqual(told[1][1], (-BIG, 2 * BIG + 1))
        self.assertEqual((power(told), is_state(LOOP, rules, told), is_state_row(LOOP, told)), ((0, 1), True, True))
        self.assertEqual(seen(LOOP, rules, "a"), ("line", 2 * BIG + 1, 1, 0))
        self.assertEqual(seen(LOOP, (("a", ("battery", BIG)), ("b", ("line", BIG, BIG, BIG)), ("c", ("short",))), "c"),
                         ("line", 1, -1, BIG + 1))
        wiring = scattered(24, 9, 3)
        rules = tuple([(part, ("line", BIG - at ** 5, 7 ** 47 + at, 3 ** 80 - at)) for at, part
                       in enumerate(parts(wiring))])
        row = some_state(wiring, rules)
        self.assertEqual((is_state(wiring, rules, row), bench(wiring, rules), freedom(wiring, rules)), (True, row, 0))
        self.assertTrue(exact.keeps(wiring, rules, pairs_of(row)))

    def test_is_state_asks_all(self):
        right = (("a", (2, 1), (2, 1)), ("b", (1, 1), (2, 1)), ("c", (2, 1), (2, 1)), ("d", (2, 1), (-6, 1)),
                 ("e", (1, 1), (2, 1)))
        self.assertIs(is_state(ONE, RULES, right), True)
        self.assertIs(is_state(ONE, anything(ONE), right), True)
        for at in range(5):
            for spot in (1, 2):
                for value in ((0, 1), (1, 2), (-1, 1)):
                    row = right[at][:spot] + (value,) + right[at][spot + 1:]
                    rows = right[:at] + (row,) + right[at + 1:]
                    self.assertIs(is_state(ONE, RULES, rows), False)
                    self.assertIs(is_state(ONE, anything(ONE), rows), False)
        for at, rule in enumerate([("resistor", 2), ("open",), ("short",), ("battery", 6), ("line", 1, 1, 4)]):
            self.assertIs(is_state(ONE, RULES[:at] + ((RULES[at][0], rule),) + RULES[at + 1:], right), False)
        self.assertIs(is_state(THIRD, anything(ONE), right), False)

    def test_seen_does_not_ask_its_own_rule(self):
        for rule in KINDS:
            self.assertEqual(seen(ONE, RULES[:1] + (("b", rule),) + RULES[2:], "b"), ("line", 1, 1, 3))
        self.assertEqual(seen(PAIR, (("x", ("source", 4)), ("y", ("any",))), "x"), ("any",))
        self.assertEqual(seen(LOOP, (("a", ("any",)), ("b", ("source", 4)), ("c", ("open",))), "a"), ("none",))
        self.assertEqual(seen(LONE, anything(LONE), "a"), ("line", 1, 0, 0))
        self.assertEqual(seen((("a", "k", "k"),), (("a", ("open",)),), "a"), ("line", 0, 1, 0))
        self.assertEqual(seen(PAIR, (("x", ("any",)), ("y", ("resistor", 6))), "x"), ("line", 6, 1, 0))
        self.assertEqual(seen(PAIR, (("x", ("any",)), ("y", ("line", 4, 6, -10))), "x"), ("line", 2, -3, -5))


class AlikeTest(unittest.TestCase):

    def test_alike_wirings_have_the_same_states(self):
        for many in (2, 3):
            for family in families(many):
                for rules in rule_rows(family[0], 10):
                    for other in family[1:]:
                        self.assertIs(same_states(family[0], other, rules), True)
                        self.assertEqual(bench(family[0], rules), bench(other, rules))
        pairs = ((ONE, OTHER), (SQUARE, TURNED_SQUARE), (NESTED, turned(NESTED, ("f1", "f2", "f3"))),
                 (GATE, reversed_parts(GATE, parts(GATE))), (ROUND, turned(ROUND, ("a", "b", "c"))))
        for one, other in pairs:
            for rules in rule_rows(one, 30):
                self.assertIs(same_states(one, other, rules), alike(one, other))
                if alike(one, other):
                    row, state = some_state(one, rules), some_state(other, tuple(list(rule_rows(one, 31))[30]))
                    if row is not None and state is not None:
                        self.assertEqual((cross(row, state), cross(state, row)), ((0, 1), (0, 1)))

    def test_just_the_same_states(self):
        for rules in rule_rows(all_wirings(2)[0], 12):
            for one in all_wirings(2):
                for other in all_wirings(2):
                    mine, its = exact.states(one, rules), exact.states(other, rules)
                    same = mine is None and its is None or None not in (mine, its) and self.within(
                        other, rules, mine) and self.within(one, rules, its)
                    self.assertIs(same_states(one, other, rules), same)

    def within(self, wiring, rules, states):
        one, directions = states
        sums = [[(a + c, b + d) for (a, b), (c, d) in zip(one, direction)] for direction in directions]
        return all(exact.keeps(wiring, rules, row) for row in [one, *sums])

    def test_tests_of_rings(self):
        for many in (1, 2, 3):
            for family in families(many):
                for ring in rings(family[0]):
                    self.check_test(family[0], ring)
        for ring in rings(GATE):
            self.check_test(GATE, ring)

    def check_test(self, wiring, ring):
        rules, signs = test_of(wiring, ring), {"along": 1, "against": -1}
        self.assertTrue(is_rule_row(wiring, rules))
        self.assertEqual([row[1] for row in bench(wiring, rules)],
                         [(signs.get(dict(ring).get(part), 0), 1) for part in parts(wiring)])
        others = [family[0] for family in families(len(wiring))] if len(wiring) < 4 else [
            reversed_parts(wiring, part) for part in parts(wiring)]
        for other in others:
            with self.subTest(wiring=wiring, other=other, ring=ring):
                told = bench(other, rules)
                shown = told is not None and all(
                    row[1] == (signs[dict(ring)[row[0]]], 1) for row in told if row[0] in dict(ring))
                self.assertEqual(shown, ring in rings(other))
                if ring not in rings(other):
                    self.assertIs(same_states(wiring, other, rules), False)
                    with self.assertRaises(NoRing):
                        test_of(other, ring)

    def test_cross_states(self):
        for many in (1, 2, 3):
            for one in [family[0] for family in families(many)]:
                for other in [family[-1] for family in families(many)]:
                    self.check_cross(one, other)
        for one, other in ((ONE, THIRD), (GATE, reversed_parts(GATE, "b")), (ONE, OTHER), (NESTED, NESTED),
                           (reversed_parts(NESTED, ("f2",)), NESTED)):
            self.check_cross(one, other)

    def check_cross(self, one, other):
        told = cross_states(one, other)
        self.assertEqual(told is None, alike(one, other))
        if told is not None:
            number, rows, others = told
            self.assertIs(type(number), int)
            mine, its = (one, other) if number == 0 else (other, one)
            self.assertTrue(is_state_row(one, rows) and is_state_row(one, others))
            self.assertTrue(is_state(mine, anything(one), rows) and is_state(its, anything(one), others))
            self.assertNotEqual(cross(rows, others), (0, 1))

    def test_cross_and_power_are_sums(self):
        rows = (("x", (1, 2), (3, 4)), ("y", (-5, 3), (7, 1)))
        others = (("x", (9, 1), (2, 3)), ("y", (0, 1), (1, 5)))
        self.assertEqual((cross(rows, others), cross(others, rows)), ((0, 1), (27, 4)))
        self.assertEqual((power(rows), power(others)), ((-271, 24), (6, 1)))
        self.assertEqual(cross(rows, (("x", (0, 1), (2, 3)), ("y", (0, 1), (1, 1)))), (-4, 3))

    def test_other_parts(self):
        for call in (lambda one, other: same_states(one, other, anything(one)), cross_states,
                     lambda one, other: cross(some_state(one, anything(one)), some_state(other, anything(other)))):
            for one, other, part in ((ONE, ONE[:4], "e"), (ONE[1:], ONE, "a"), (HOUSE, LOOP, "d"), ((), PAIR, "x"),
                                     (PAIR, SQUARE, "a")):
                with self.assertRaises(OtherParts) as caught:
                    call(one, other)
                self.assertEqual(caught.exception.part, part)


class PossibleTest(unittest.TestCase):

    def test_all_places(self):
        told = possible_states(LOOP, (("a", ((0, 1), (1, 1), (1, 2))), ("b", ((1, 1), (0, 0))),
                                      ("c", ((1, -2), (0, -1), (1, -3)))))
        self.assertEqual(told, ((0, 1, 1), (1, 0, 0), (2, 0, 2)))
        self.assertEqual(possible_states(PAIR, (("x", ()), ("y", ((1, 2),)))), ())
        self.assertEqual(possible_states((("a", "k", "k"),), (("a", ((5, 0), (0, 1), (-7, 0))),)), ((0,), (2,)))
        self.assertEqual(possible_states(LONE, (("a", ((5, 0), (0, 1), (0, -7))),)), ((1,), (2,)))

    def test_against_all_choices(self):
        pairs = ((0, 0), (1, 0), (0, 1))
        for wiring in all_wirings(3)[::5]:
            tables = tuple([(part, pairs) for part in parts(wiring)])
            rules = anything(wiring)
            choices = [(a, b, c) for a in range(3) for b in range(3) for c in range(3)]
            right = tuple([row for row in choices if exact.keeps(wiring, rules, [pairs[at] for at in row])])
            self.assertEqual(possible_states(wiring, tables), right)

    def test_seven_parts(self):
        tables = tuple([(part, ((1, 1), (1, 0), (1, -1))) for part in parts(ROUND)])
        told = possible_states(ROUND, tables)
        # As many 1 as -1 round the ring: 1 + 7 * 6 + 7 * 6 * 5 * 4 // 4 + 7 * 6 * 5 * 4 * 3 * 2 // 36.
        self.assertEqual((len(told), told[0], list(told) == sorted(told)), (393, (0, 0, 0, 1, 2, 2, 2), True))


if __name__ == "__main__":
    unittest.main()
