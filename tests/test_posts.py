"""[10]: units with posts."""

import unittest
from itertools import permutations

from sameloops.alike import alike
from sameloops.errors import NoFit, NoPart, NoPlace, OtherParts, Twice
from sameloops.posts import (foil, in_place, is_unit, joined_units, post_table, put_into, stand_for, turned_about,
                             unit_of)
from sameloops.rings import ring_table, rings
from sameloops.wirings import is_wiring, nodes, opened, parts, same_drawing
from tests.support import (EIGHT, GATE, GROUPS, HOUSE, LOOSE, NESTED, ONE, SQUARE, WIRINGS, all_wirings, deep, listed,
                           node_names, slow_rings, subsets)

ROW = (("a", "p", "q"), ("b", "q", "r"), ("c", "p", "r"))
BACK = (("a", "q", "r"), ("b", "p", "q"), ("c", "p", "r"))
SHORT = (("d", "p", "r"), ("e", "r", "q"))


def star_on(unit):
    """The wiring of the unit with a star: a new part from each post to one new node."""
    wiring, posts = unit
    return wiring + tuple([("z" + str(at), post, "centre") for at, post in enumerate(posts)])


def units_of(wiring, many):
    """UNITs of the wiring with so many posts, also with one at which no part ends."""
    return [(wiring, posts) for posts in permutations(node_names(wiring) + ["zz"], many)]


class ExamplesTest(unittest.TestCase):

    def test_stand_for(self):
        self.assertIs(stand_for((ROW, ("p", "r")), (BACK, ("p", "r"))), True)
        self.assertIs(stand_for((ROW, ("p", "q", "r")), (BACK, ("p", "q", "r"))), False)
        self.assertEqual(foil((ROW, ("p", "q", "r")), (BACK, ("p", "q", "r"))), (0, 1))

    def test_table(self):
        self.assertEqual(post_table((ROW, ("p", "z", "r"))), (
            ((("a", "along"), ("b", "along"), ("c", "against")),),
            ((0, ()), (1, ()), (0, (("a", "along"), ("b", "along"))))))

    def test_turned_and_put(self):
        self.assertEqual(turned_about((ROW, ("p", "r"))),
                         ((("a", "q", "p"), ("b", "r", "q"), ("c", "r", "p")), ("r", "p")))
        self.assertEqual(put_into((ROW, ("p", "r")), (("x", "r", "k"), ("y", "k", "p")))[3:],
                         (("x", "r", "k"), ("y", "k", "p")))
        self.assertEqual(unit_of(opened(HOUSE, ("d",)), ("a", "b")), ((("a", "n", "m"), ("b", "m", "k")), ("k", "n")))
        self.assertEqual(in_place(HOUSE, ((("c", "n", "k"),), ("k", "n")))[2], ("c", "n", "k"))

    def test_joined(self):
        one = joined_units((ROW, ("p", "r")), (SHORT, ("p", "r")), ((1, 0),))
        self.assertEqual((len(one[1]), post_table(one)[1][2]),
                         (3, (0, (("a", "along"), ("b", "along"), ("d", "along")))))

    def test_errors(self):
        with self.assertRaises(NoFit):
            put_into((ROW, ("p", "r")), (("x", "q", "k"),))
        with self.assertRaises(NoFit):
            foil((ROW, ("p", "r")), (ROW, ("p",)))


class IsUnitTest(unittest.TestCase):

    def test_units(self):
        for wiring in WIRINGS:
            for posts in ((), ("p",), ("z", "a"), ("k.1", "k", "a1"), tuple(node_names(wiring))):
                self.assertIs(is_unit((wiring, posts)), True)

    def test_no_units(self):
        for thing in ((ROW,), (ROW, (), ()), [ROW, ()], (list(ROW), ()), (listed(ROW), ()), (ROW, []), (ROW, ["p"]),
                      (ROW, ("p", "p")), (ROW, ("p", "q", "p")), (ROW, "p"), (ROW, ("",)), (ROW, ("P",)),
                      (ROW, ("1",)), (ROW, (1,)), (ROW, (True,)), (ROW, (None,)), (ROW, (("p",),)), (ROW, (["p"],)),
                      (ROW, ("p", [])), (ROW[::-1], ()), (ROW + ROW[:1], ()), ((), ROW), ROW, (("p",), ROW), (), None,
                      True, 0, "unit", ((), None), (None, ()), (1, 2), ((ROW, ()),), deep(1), ("ab", ("a",)),
                      (ROW, (".a",)), (ROW, ("a b",))):
            with self.subTest(thing=thing):
                self.assertIs(is_unit(thing), False)


class PutTest(unittest.TestCase):

    def test_unit_of_and_back(self):
        for wiring in (*WIRINGS, ONE, NESTED):
            for names in subsets(parts(wiring))[::7]:
                unit = unit_of(wiring, names)
                rest = tuple([item for item in wiring if item[0] not in names])
                self.assertTrue(is_unit(unit))
                self.assertEqual(unit[0], tuple([item for item in wiring if item[0] in names]))
                self.assertEqual(unit[1], tuple([node for node in node_names(unit[0]) if node in node_names(rest)]))
                self.assertEqual(put_into(unit, rest), wiring)
                self.assertTrue(same_drawing(in_place(wiring, unit), wiring))

    def test_unit_of_by_hand(self):
        self.assertEqual(unit_of(HOUSE, ("d",)), ((("d", "m", "m"),), ("m",)))
        self.assertEqual(unit_of(HOUSE, parts(HOUSE)), (HOUSE, ()))
        self.assertEqual(unit_of(HOUSE, ()), ((), ()))
        for names, part in ((("a", "z"), "z"), (("aa", "y", "z"), "aa"), (("0",), "0")):
            with self.assertRaises(NoPart) as caught:
                unit_of(HOUSE, names)
            self.assertEqual(caught.exception.part, part)

    def test_put_into_errors(self):
        with self.assertRaises(Twice) as caught:
            put_into((ROW, ("p", "r")), (("b", "q", "k"), ("c", "q", "p")))
        self.assertEqual(caught.exception.part, "b")
        # A post that no part ends at is no inner node; what is a post may stand in the surrounding.
        self.assertEqual(put_into((ROW, ("p", "z", "q", "r")), (("x", "q", "z"),)), ROW + (("x", "q", "z"),))
        self.assertEqual(put_into((ROW, ()), ()), ROW)
        self.assertEqual(put_into(((), ("q",)), ROW), ROW)
        with self.assertRaises(NoFit):
            put_into((ROW, ()), (("x", "z", "p"),))
        self.assertEqual(put_into((SHORT, ("p", "r", "q")), ROW), ROW + SHORT)

    def test_in_place(self):
        told = in_place(HOUSE, ((("c", "y", "n"), ("f", "k", "y")), ("n", "k")))
        self.assertEqual(told, HOUSE[:2] + (("c", "y", "n"),) + HOUSE[3:5] + (("f", "k", "y"),))
        # An inner node that has the NAME of another one gets a NAME of its own.
        told = in_place(HOUSE, ((("c", "m", "n"), ("f", "k", "m")), ("n", "k")))
        self.assertEqual((told[:2], told[3:5]), (HOUSE[:2], HOUSE[3:5]))
        self.assertTrue(is_wiring(told))
        self.assertEqual((told[2][2], told[5][1], told[2][1] == told[5][2], len(nodes(told))), ("n", "k", True, 5))
        self.assertNotIn(told[2][1], nodes(HOUSE))
        # Further posts join with what ends there.
        self.assertEqual(in_place(HOUSE, ((("e", "m", "k"),), ("k", "m", "q")))[4], ("e", "m", "k"))
        self.assertEqual(in_place(HOUSE, ((), ())), HOUSE)
        self.assertEqual(in_place(HOUSE, (HOUSE, ())), HOUSE)

    def test_names_that_are_taken(self):
        wiring = (("a", "n0", "n1"), ("b", "n1", "n2"), ("c", "n2", "x"), ("d", "x", "n0"))
        unit = ((("b", "x", "n3"), ("c", "n3", "n2"), ("d", "n1", "n0")), ("n0", "n1"))
        told = in_place(wiring, ((("b", "n0", "n2"), ("c", "n2", "x"), ("d", "x", "n1")), ("n0", "n1")))
        self.assertEqual(len(nodes(told)), 4)
        told = in_place(wiring[:2] + (("c", "n0", "x"), ("d", "x", "n2")), unit[:1] + (("n0", "n1", "n2"),))
        self.assertEqual((len(nodes(told)), len(slow_rings(told))), (5, 1))
        self.assertEqual(told[0], ("a", "n0", "n1"))
        # Several inner nodes that are all taken stay apart.
        outer = (("a", "u", "v"), ("b", "w", "x"), ("p", "k", "l"))
        told = in_place(outer, ((("p", "v", "w"),), ("k", "l")))
        self.assertEqual((told[:2], len(nodes(told))), (outer[:2], 6))
        told = in_place((("a", "n0", "n1"), ("b", "n1", "k"), ("p", "k", "k")), ((("p", "n0", "n1"),), ("k",)))
        self.assertEqual(len(nodes(told)), 5)

    def test_a_name_that_a_post_has(self):
        # The post n0 has no part outside of the UNIT; still no inner node may be called so.
        told = in_place(HOUSE, ((("c", "m", "n"), ("f", "k", "n0")), ("n", "k", "n0")))
        self.assertEqual((told[5], len(nodes(told))), (("f", "k", "n0"), 6))
        told = joined_units((ROW, ("p", "n0")), ((("d", "q", "p"),), ("p",)), ((0, 0),))
        self.assertNotIn(told[0][3][1], ("q", "n0"))

    def test_in_place_errors(self):
        for unit, error, value in (
                (((("b", "m", "k"), ("g", "k", "n"), ("h", "k", "k")), ()), NoPart, "g"),
                (((("c", "k", "n"),), ("k",)), NoFit, None), (((("c", "k", "n"),), ("m", "x")), NoFit, None),
                (((("z", "k", "n"), ("zz", "k", "k")), ("k", "n")), NoPart, "z")):
            with self.assertRaises(error) as caught:
                in_place(HOUSE, unit)
            self.assertEqual(getattr(caught.exception, "part", None), value)
        self.assertEqual(in_place(HOUSE, ((("d", "q", "q"),), ("m",)))[3], ("d", "q", "q"))

    def test_turned_about(self):
        for wiring in (ROW, SQUARE, GATE, LOOSE, EIGHT):
            for posts in ((node_names(wiring)[0], node_names(wiring)[-1]), ("zz", "p"), ("zz", "yy")):
                unit = (wiring, posts)
                told = turned_about(unit)
                self.assertIs(stand_for(unit, told), True)
                self.assertEqual(turned_about(told), unit)
                self.assertEqual(told[0], tuple([(part, end, start) for part, start, end in wiring]))
        for posts in ((), ("p",), ("p", "q", "r")):
            with self.assertRaises(NoFit):
                turned_about((ROW, posts))


class TableTest(unittest.TestCase):

    def test_by_hand(self):
        self.assertEqual(post_table(((), ())), ((), ()))
        self.assertEqual(post_table((SQUARE, ())), (ring_table(SQUARE), ()))
        self.assertEqual(post_table(((), ("a", "b"))), ((), ((0, ()), (1, ()))))
        self.assertEqual(post_table((GROUPS, ("m", "z", "q", "k", "y")))[1],
                         ((0, ()), (1, ()), (2, ()), (0, (("c", "against"), ("e", "against"))), (1, (("a", "along"),))))
        self.assertEqual(post_table((SQUARE, ("r", "q", "p")))[1],
                         ((0, ()), (0, (("b", "against"),)), (0, (("a", "against"), ("b", "against")))))

    def test_stand_for_just_with_equal_tables_and_stars(self):
        found = []
        for many in (0, 1, 2):
            units = [unit for wiring in all_wirings(many) for posts in (0, 1, 2, 3)
                     for unit in units_of(wiring, posts)]
            for at, one in enumerate(units):
                for other in units[at % 3::3] if many == 2 else units:
                    if len(one[1]) == len(other[1]):
                        found.append(self.check(one, other))
        wirings = all_wirings(3)[::9]
        units = [unit for wiring in wirings for posts in (2, 3) for unit in units_of(wiring, posts)[::3]]
        for one in units[::9]:
            for other in units:
                if len(one[1]) == len(other[1]):
                    found.append(self.check(one, other))
        self.assertEqual({told if told in (None, ()) else "pair" for told in found}, {None, (), "pair"})

    def check(self, one, other):
        same = alike(star_on(one), star_on(other))
        self.assertIs(stand_for(one, other), same)
        self.assertEqual(post_table(one) == post_table(other), same)
        told = foil(one, other)
        self.assertEqual(told is None, same)
        self.assertEqual(told == (), not alike(one[0], other[0]))
        if told:
            pairs = [(low, high) for high in range(len(one[1])) for low in range(high)]
            wrong = [pair for pair in sorted(pairs) if not self.alike_with(one, other, pair)]
            self.assertEqual(told, wrong[0])
        return told

    def alike_with(self, one, other, pair):
        rows = [wiring + (("zz", posts[pair[0]], posts[pair[1]]),) for wiring, posts in (one, other)]
        return alike(rows[0], rows[1])

    def test_in_surroundings(self):
        one, other = (ROW, ("p", "r")), (BACK, ("p", "r"))
        for around in ((("x", "r", "k"), ("y", "k", "p")), (("x", "p", "r"),), (("u", "p", "k"), ("v", "l", "r")), ()):
            self.assertTrue(alike(put_into(one, around), put_into(other, around)))
        self.assertFalse(alike(put_into((ROW, ("p", "q")), (("x", "p", "q"),)),
                               put_into((BACK, ("p", "q")), (("x", "p", "q"),))))

    def named(self, unit):
        """The UNIT with the same NAMEs for the posts of all units, and other ones for its inner nodes."""
        wiring, posts = unit
        names = {post: f"post{at}" for at, post in enumerate(posts)}
        return (tuple([(part, names.get(start, start + ".in"), names.get(end, end + ".in"))
                       for part, start, end in wiring]), tuple(names.values()))

    def test_in_all_small_surroundings(self):
        units = [self.named(unit) for wiring in all_wirings(2) for unit in units_of(wiring, 2)]
        units += [self.named(unit) for wiring in all_wirings(3)[::20] for unit in units_of(wiring, 3)[::4]]
        around = ("post0", "post1", "post2", "out")
        steps = [(start, end) for start in around for end in around]
        surroundings = [()] + [(("x", *step),) for step in steps] + [
            (("x", *one), ("y", *other)) for one in steps for other in steps[::3]]
        found = set()
        for at, one in enumerate(units):
            for other in units[at % 29::29]:
                if parts(one[0]) == parts(other[0]) and len(one[1]) == len(other[1]):
                    fitting = [wiring for wiring in surroundings if set(node_names(wiring)) <= {*one[1], "out"}]
                    same = [alike(put_into(one, wiring), put_into(other, wiring)) for wiring in fitting]
                    self.assertIs(stand_for(one, other), all(same))
                    found.add(all(same))
        self.assertEqual(found, {True, False})

    def test_errors_in_order(self):
        for call in (stand_for, foil):
            for one, other, part in (((ROW, ()), (ROW[:2], ("p",)), "c"), ((ROW[1:], ("p",)), (ROW, ("p",)), "a"),
                                     ((ROW, ()), (SHORT, ()), "a"), ((SHORT, ()), ((), ()), "d")):
                with self.assertRaises(OtherParts) as caught:
                    call(one, other)
                self.assertEqual(caught.exception.part, part)
            for posts in ((), ("p", "q", "r")):
                with self.assertRaises(NoFit):
                    call((ROW, ("p", "r")), (BACK, posts))
                with self.assertRaises(NoFit):
                    call((ROW, ("p", "r")), (SQUARE[:1] + (("b", "k", "k"), ("c", "l", "l")), posts))

    def test_a_part_called_as_a_further_one_might_be(self):
        wiring = (("n0", "k", "l"), ("n1", "l", "m"), ("x", "m", "q"))
        other = (("n0", "k", "l"), ("n1", "m", "l"), ("x", "m", "q"))
        self.assertEqual(foil((wiring, ("k", "l", "m", "q")), (other, ("k", "l", "m", "q"))), (0, 2))
        self.assertIsNone(foil((wiring, ("k", "l")), (other, ("k", "l"))))
        self.assertEqual(foil((wiring, ("k", "q")), (wiring, ("k", "z"))), (0, 1))


class JoinedTest(unittest.TestCase):

    def test_by_hand(self):
        one, other = (ROW, ("p", "r")), (SHORT, ("p", "r"))
        self.assertEqual(joined_units(one, other, ((0, 0), (1, 1)))[0][:4], ROW + (("d", "p", "r"),))
        told = joined_units(one, other, ((0, 1),))
        self.assertEqual((told[0][:3], told[1][:2], len(told[1]), told[0][3][2], told[0][4][1]),
                         (ROW, ("p", "r"), 3, "p", "p"))
        self.assertEqual(told[0][3][1], told[1][2])
        self.assertEqual(len(set(told[1])), 3)
        self.assertEqual(len(nodes(told[0])), 5)
        told = joined_units(one, other, ())
        self.assertEqual((told[0][:3], len(nodes(told[0])), len(set(told[1])), told[1][:2]), (ROW, 6, 4, ("p", "r")))
        self.assertEqual(joined_units(((), ()), (ROW, ("p",)), ()), (ROW, ("p",)))
        self.assertEqual(joined_units((ROW, ("p",)), ((), ()), ()), (ROW, ("p",)))
        self.assertEqual(joined_units((ROW, ("p",)), ((), ("z",)), ((0, 0),)), (ROW, ("p",)))

    def test_posts_that_no_part_ends_at(self):
        told = joined_units((ROW, ("z", "q")), (SHORT, ("y", "q", "z")), ((0, 1),))
        self.assertEqual(told[1][:2], ("z", "q"))
        self.assertEqual((len(told[1]), len(set(told[1]))), (4, 4))
        self.assertEqual(told[0][4][2], "z")
        # An inner node of the first unit, and a post of the second one: both are called p.
        told = joined_units((ROW, ("r",)), (SHORT, ("r", "p")), ((0, 0),))
        self.assertEqual((told[0][:3], len(nodes(told[0])), told[0][3][1] == told[1][1], told[1][1] == "p"),
                         (ROW, 5, True, False))

    def test_against_tables_of_both(self):
        units = [unit for wiring in all_wirings(2) for unit in units_of(wiring, 2)[::2]]
        others = [(tuple([("x" + part, start, end) for part, start, end in wiring]), posts)
                  for wiring, posts in units]
        for at, one in enumerate(units):
            for other in others[at % 5::5]:
                for pairs in ((), ((0, 0),), ((0, 1),), ((1, 0),), ((0, 0), (1, 1)), ((0, 1), (1, 0))):
                    self.check(one, other, pairs)

    def check(self, one, other, pairs):
        told = joined_units(one, other, pairs)
        self.assertTrue(is_unit(told))
        self.assertEqual(parts(told[0]), tuple(sorted(parts(one[0]) + parts(other[0]))))
        self.assertEqual((told[1][:2], len(told[1])), (one[1], 4 - len(pairs)))
        # What comes out stands for the two units side by side, with wires of no length between.
        names = {post: one[1][mine] for mine, post in [(pair[0], other[1][pair[1]]) for pair in pairs]}
        aside = tuple([(part, names.get(start, start + ".x"), names.get(end, end + ".x"))
                       for part, start, end in other[0]])
        theirs = [pair[1] for pair in pairs]
        posts = one[1] + tuple([post + ".x" for at, post in enumerate(other[1]) if at not in theirs])
        self.assertTrue(same_drawing(told[0], tuple(sorted(one[0] + aside))))
        self.assertIs(stand_for(told, (tuple(sorted(one[0] + aside)), posts)), True)

    def test_errors_in_order(self):
        one, other = (ROW, ("p", "r")), (SHORT, ("p", "r", "q"))
        for pairs, place in ((((0, 3), (2, 0)), 2), (((0, 3), (1, 4)), 3), (((-1, 7),), -1), (((0, -1),), -1),
                             (((0, 2), (3, 9), (4, 1)), 3), (((2, 2),), 2)):
            with self.assertRaises(NoPlace) as caught:
                joined_units(one, other, pairs)
            self.assertEqual(caught.exception.place, place)
        self.assertEqual(len(joined_units(one, other, ((0, 2), (1, 0)))[1]), 3)
        with self.assertRaises(Twice) as caught:
            joined_units(one, (ROW[1:], ()), ((9, 9),))
        self.assertEqual(caught.exception.part, "b")
        with self.assertRaises(Twice) as caught:
            joined_units((ROW[2:], ()), (ROW, ()), ())
        self.assertEqual(caught.exception.part, "c")

    def test_joined_twice(self):
        row = ((), ("k",))
        for at in range(5):
            row = joined_units(row, (((f"p{at}", "k", "l"),), ("k", "l")), ((at, 0),))
        self.assertEqual(len(row[1]), 6)
        self.assertEqual(post_table(row)[1][5], (0, tuple([(f"p{at}", "along") for at in range(5)])))
        self.assertEqual(rings(row[0]), [])


if __name__ == "__main__":
    unittest.main()
