"""[14]: pieces in pieces."""

import unittest

from sameloops.alike import alike
from sameloops.errors import BadLine, NoBlock, NoPart
from sameloops.nests import Nest
from sameloops.rings import cuts, rings
from sameloops.settle import mates
from sameloops.sums import fewest_between
from sameloops.wirings import forest, is_wiring, opened, rows_from
from tests.sheets import PAIRS, SHEET, any_nest, fewest, in_pairs, likely_nest, slow_barrier, slow_way, with_line

HUGE = 10 ** 9
# Three deep, and so many copies at each depth.
DEEP = (f"block one a b\npart p a m\npart q m b\npart r m b\nblock rows a b\nrow x one {HUGE} a b\npart y a b\n"
        f"block bundles a b\nbundle z rows {HUGE + 1} a b\nblock all a b\nrow v bundles {10 ** 30} a c\npart w c b")
PATH = f"v.{10 ** 29}.z.{HUGE}.x.5"
PARTS = "block one a b\npart p a m\npart q m b\n"


def numbers_wrong(text):
    """The number that BadLine keeps for this text; None if it is a nest."""
    try:
        Nest(text)
    except BadLine as error:
        return error.number
    return None


def mates_of_all(wiring, what):
    """For each part that has mates how many they are, itself counted."""
    return {part: len(names) for names in mates(wiring, what) for part in names}


class ExamplesTest(unittest.TestCase):

    def setUp(self):
        self.nest = Nest(PAIRS)

    def test_sizes_and_ends(self):
        nest = self.nest
        self.assertEqual((nest.blocks(), len(nest), "net" in nest, nest.size("net"), nest.size("far")),
                         (("pair", "turned", "net", "far"), 4, True, (2003, 1000), (20030, 10000)))
        self.assertEqual((nest.unfolded("pair"), nest.ends("net", "y.7.q"), nest.ends("far", "z.3.x.p"),
                          nest.ends("far", "z.9.r")),
                         ((("p", "a", "m"), ("q", "b", "m")), ("b", "y.7.m"), ("z.3", "z.3.x.m"), ("z.9", "b")))

    def test_numbers(self):
        nest = self.nest
        self.assertEqual((nest.way("net"), nest.barrier("net"), nest.way("far"), nest.barrier("far")), (1, 2, 10, 2))
        self.assertEqual((nest.least_ring("net", "x.p"), nest.least_ring("net", "y.7.p"), nest.least_ring("pair", "p"),
                          nest.least_cut("net", "y.7.p"), nest.least_cut("pair", "p")), (5, 4, None, 2, 1))
        self.assertEqual((nest.row_mates("net", "x.p"), nest.row_mates("far", "z.3.y.7.q"),
                          nest.bundle_mates("net", "r"), nest.row_mates("pair", "p")), (3, 2, 1, 1))

    def test_alike_and_changed(self):
        nest = self.nest
        other = nest.changed("turned", "p", "b", "m")
        self.assertEqual((nest.alike_pieces("pair", "turned"), nest.alike("pair", "net"),
                          other.alike_pieces("pair", "turned"), other.alike("pair", "turned")),
                         (True, False, False, True))
        swapped = nest.swapped("pair", "turned")
        self.assertEqual((swapped.ends("net", "x.q"), swapped.text().split("\n")[8:10]),
                         (("x.m", "a"), ["use x turned a c", "bundle y turned 1000 c b"]))

    def test_errors(self):
        with self.assertRaises(NoPart) as caught:
            self.nest.ends("far", "z.10.r")
        self.assertEqual(caught.exception.part, "z.10.r")
        self.assertEqual(numbers_wrong("block one a b\nuse x one a b"), 1)


class LinesTest(unittest.TestCase):

    def test_right_lines(self):
        for text in ("block a a b", "block block part use\npart part part part\npart use use row",
                     PARTS + "block two a b",
                     PARTS + "block two x y\nuse p one x z\nrow q one 1 z u\nbundle r one 10 u x\npart s z z",
                     PARTS + "block two b a\nuse u one a b\nblock three a b\nuse u two a b\nuse v one b a",
                     "block x1y2 a1 b2\npart p0 c d", PARTS + f"block two a b\nrow r one {10 ** 30} a b", PAIRS, SHEET):
            with self.subTest(text=text):
                self.assertIsNone(numbers_wrong(text))
                self.assertEqual(Nest(text).text(), text)

    def test_wrong_first_lines(self):
        for line in ("", " ", "block", "block a", "block a b", "block a b b", "block a b c d", "block A b c",
                     "block a.b c d", "block 1 b c", "block a b c ", " block a b c", "block  a b c", "block a\tb c",
                     "Block a b c", "part p a b", "use x a b c", "row x a 2 b c", "blocks a b c", "block a b 2",
                     "block a b c.d", "block a b c\r", "#", "block a b C", "x", "block a b_c d", "block a, b c"):
            with self.subTest(line=line):
                self.assertEqual(numbers_wrong(line), 0)
                self.assertEqual(numbers_wrong(line + "\nblock a b c"), 0)

    def test_wrong_lines_behind(self):
        good = PARTS + "block two a b\npart p a b\nuse x one a b"
        for line in ("", " ", "part q a", "part q a b c", "part q.r a b", "part q a b.c", "part q A b", "part p a b",
                     "part x a b", "use p one a b", "use x one a b", "row x one 2 a b", "bundle p one 2 a b",
                     "use y one a a", "use y one a", "use y one a b c", "use y one 2 a b", "use y two a b",
                     "use y three a b", "use y one. a b", "use y.z one a b", "row y one 0 a b", "row y one 01 a b",
                     "row y one -1 a b", "row y one +1 a b", "row y one 1 a a", "row y one a b", "row y one 1 a b c",
                     "row y one 1 2 a b", "row y one 1.0 a b", "row y one x a b", "row y two 1 a b", "row y one 1 a B",
                     "bundle y one 00 a b", "bundle y one 1_0 a b", "bundle y one 1 a b ", " part q a b", "part  q a b",
                     "part q a  b", "part\tq a b", "block one a b", "block two a b", "block three a a", "block three a",
                     "block three a b c", "row y one  1 a b", "part q a b#", "Part q a b", "rows y one 1 a b",
                     "use y one a b\r", "use 1y one a b", "row y one \u0661 a b", "part q \u00e9 b", "row y one 1 a 2"):
            with self.subTest(line=line):
                self.assertEqual(numbers_wrong(good + "\n" + line), 6)
                self.assertEqual(numbers_wrong(good + "\n" + line + "\nx"), 6)
        self.assertIsNone(numbers_wrong(good))
        self.assertEqual(numbers_wrong(good + "\n"), 6)
        self.assertEqual(numbers_wrong("\n" + good), 0)

    def test_the_first_wrong_line_counts(self):
        self.assertEqual(numbers_wrong(PARTS + "use x two a b\nblock two a b\nblock one a b\nx"), 3)
        self.assertEqual(numbers_wrong("block one a b\npart p a b\npart p a b\n\n"), 2)

    def test_blocks(self):
        nest = Nest("block c a b\nblock a x y\nblock b a b")
        self.assertEqual((nest.blocks(), len(nest), "a" in nest, "x" in nest, "" in nest, "c" in nest),
                         (("c", "a", "b"), 3, True, False, False, True))
        self.assertEqual([nest.unfolded(name) for name in nest.blocks()], [(), (), ()])
        self.assertEqual((nest.size("a"), nest.way("a"), nest.barrier("a")), ((0, 0), None, 0))

    def test_equal(self):
        self.assertTrue(Nest(PAIRS) == Nest(PAIRS))
        self.assertFalse(Nest(PAIRS) != Nest(PAIRS))
        self.assertFalse(Nest(PAIRS) == Nest(SHEET))
        for other in (PAIRS, None, 7, (PAIRS,), object()):
            self.assertFalse(Nest(PAIRS) == other)
            self.assertTrue(Nest(PAIRS) != other)


class SmallTest(unittest.TestCase):

    def test_against_what_is_unfolded(self):
        many = 0
        for seed in range(500):
            nest = Nest(any_nest(seed))
            for block in nest.blocks():
                if nest.size(block)[0] < 10:
                    many += len(self.check(nest, block))
        self.assertGreater(many, 3000)

    def check(self, nest, block):
        wiring, posts = nest.unfolded(block), ("p", "q")
        self.assertTrue(is_wiring(wiring))
        self.assertEqual(nest.size(block), (len(wiring), len(wiring) - len(forest(wiring))), nest.text())
        self.assertEqual(nest.way(block), slow_way(wiring, posts), nest.text())
        self.assertEqual(nest.barrier(block), slow_barrier(wiring, posts), nest.text())
        all_rings, all_cuts = rings(wiring), cuts(wiring)
        for part, start, end in wiring:
            told = (nest.ends(block, part), nest.least_ring(block, part), nest.least_cut(block, part),
                    nest.row_mates(block, part), nest.bundle_mates(block, part))
            self.assertEqual(told, ((start, end), fewest(all_rings, part), fewest(all_cuts, part),
                                    in_pairs(all_cuts, part), in_pairs(all_rings, part)), (nest.text(), block, part))
        return wiring

    def test_greater_against_what_is_unfolded(self):
        many = 0
        for seed in range(500, 1100):
            nest = Nest(any_nest(seed))
            for block in [name for name in nest.blocks() if 10 <= nest.size(name)[0] <= 40]:
                wiring = nest.unfolded(block)
                tables = mates_of_all(wiring, "current"), mates_of_all(wiring, "voltage")
                self.assertEqual(nest.size(block)[1], len(wiring) - len(forest(wiring)))
                for part, start, end in wiring[::5]:
                    row = rows_from(opened(wiring, (part,)), end).get(start)
                    cut = None if start == end else len(fewest_between(wiring, start, end)[0])
                    told = (nest.ends(block, part), nest.least_ring(block, part), nest.least_cut(block, part),
                            nest.row_mates(block, part), nest.bundle_mates(block, part))
                    self.assertEqual(told, ((start, end), None if row is None else len(row) + 1, cut,
                                            tables[0].get(part, 1), tables[1].get(part, 1)), (nest.text(), block, part))
                    many += 1
        self.assertGreater(many, 500)

    def test_alike_against_what_is_unfolded(self):
        found = []
        for seed in range(250):
            nest = Nest(likely_nest(seed))
            blocks = [block for block in nest.blocks() if nest.size(block)[0] < 20]
            for one in blocks:
                for other in blocks:
                    mine, its = nest.unfolded(one), nest.unfolded(other)
                    told = (nest.alike(one, other), nest.alike_pieces(one, other))
                    lines = with_line(mine, ("p", "q")), with_line(its, ("p", "q"))
                    self.assertEqual(told, (alike(mine, its), alike(lines[0], lines[1])), (nest.text(), one, other))
                    if one != other:
                        found.append(told)
        self.assertEqual(set(found), {(True, True), (True, False), (False, False)})

    def test_unfolded_names(self):
        text = ("block in p q\npart a p m\npart b q n\nblock mid q p\nuse u in q p\nrow r in 3 q k\n"
                "bundle s in 2 k p\nblock out a b\nuse x mid c d\nrow y in 1 a b")
        self.assertEqual(Nest(text).unfolded("mid"), (
            ("r.0.a", "q", "r.0.m"), ("r.0.b", "r.1", "r.0.n"), ("r.1.a", "r.1", "r.1.m"), ("r.1.b", "r.2", "r.1.n"),
            ("r.2.a", "r.2", "r.2.m"), ("r.2.b", "k", "r.2.n"), ("s.0.a", "k", "s.0.m"), ("s.0.b", "p", "s.0.n"),
            ("s.1.a", "k", "s.1.m"), ("s.1.b", "p", "s.1.n"), ("u.a", "q", "u.m"), ("u.b", "p", "u.n")))
        told = Nest(text).unfolded("out")
        self.assertEqual(told[2:4], (("x.r.1.a", "x.r.1", "x.r.1.m"), ("x.r.1.b", "x.r.2", "x.r.1.n")))
        self.assertEqual((told[0], told[-1]), (("x.r.0.a", "c", "x.r.0.m"), ("y.0.b", "b", "y.0.n")))
        # More than ten copies: the parts stand ascending by NAME, not by number.
        told = Nest(PARTS + "block two a b\nrow x one 11 a b").unfolded("two")
        self.assertTrue(is_wiring(told))
        self.assertEqual([item[0] for item in told[2:6]], ["x.1.p", "x.1.q", "x.10.p", "x.10.q"])

    def test_other_names(self):
        lines = ("part x a b", "use x one a b", "row x one 1 a b", "bundle x one 1 a b", "row x one 2 a b",
                 "bundle x one 2 a b", "use x only a b", "use y one a b", "")
        blocks = [f"block n{at} a b" + ("\n" + line if line else "") for at, line in enumerate(lines)]
        nest = Nest("block only a b\npart p a b\n" + PARTS + "\n".join(blocks))
        for one in range(len(lines)):
            for other in range(len(lines)):
                mine, its = nest.unfolded(f"n{one}"), nest.unfolded(f"n{other}")
                self.assertEqual(nest.alike(f"n{one}", f"n{other}"), alike(mine, its), (lines[one], lines[other]))
                self.assertEqual(nest.alike(f"n{one}", f"n{other}"), one == other or (one, other) in ((2, 3), (3, 2)))

    def test_copies_of_nothing(self):
        text = (f"block no a b\nblock two a b\nrow x no {10 ** 30} a b\nbundle y no {10 ** 30} a c\npart p a b\n"
                "use z no b c")
        nest = Nest(text)
        self.assertEqual((nest.unfolded("two"), nest.size("two"), nest.way("two"), nest.barrier("two")),
                         ((("p", "a", "b"),), (1, 0), 1, 1))
        self.assertEqual((nest.alike("no", "no"), nest.alike_pieces("no", "no"), nest.alike("no", "two")),
                         (True, True, False))
        one = Nest(text + "\nblock one a b\npart p a b")
        self.assertEqual((one.alike("one", "two"), one.alike_pieces("two", "one")), (True, True))


class GreatTest(unittest.TestCase):

    def setUp(self):
        self.nest = Nest(DEEP)

    def test_sizes(self):
        rows = 3 * HUGE + 1
        bundles = rows * (HUGE + 1)
        self.assertEqual(self.nest.size("one"), (3, 1))
        self.assertEqual(self.nest.size("rows"), (rows, HUGE + 1))
        # Each row beside the first one closes one more ring.
        self.assertEqual(self.nest.size("bundles"), (bundles, (HUGE + 1) * (HUGE + 1) + HUGE))
        self.assertEqual(self.nest.size("all"), (bundles * 10 ** 30 + 1,
                                                 ((HUGE + 1) * (HUGE + 1) + HUGE) * 10 ** 30))

    def test_ways(self):
        told = [(self.nest.way(block), self.nest.barrier(block)) for block in self.nest.blocks()]
        self.assertEqual(told, [(2, 1), (1, 2), (1, 2 * HUGE + 2), (10 ** 30 + 1, 1)])

    def test_paths(self):
        nest = self.nest
        self.assertEqual(nest.ends("all", PATH + ".p"), (f"v.{10 ** 29}.z.{HUGE}.x.5", f"v.{10 ** 29}.z.{HUGE}.x.5.m"))
        self.assertEqual(nest.ends("all", f"v.{10 ** 30 - 1}.z.0.x.{HUGE - 1}.q"),
                         (f"v.{10 ** 30 - 1}.z.0.x.{HUGE - 1}.m", "c"))
        self.assertEqual(nest.ends("all", f"v.{10 ** 30 - 1}.z.7.y"), (f"v.{10 ** 30 - 1}", "c"))
        # Through p a ring leads through the whole row and back over y.
        self.assertEqual((nest.least_ring("all", PATH + ".p"), nest.least_ring("all", PATH + ".q")), (2 * HUGE + 1, 2))
        self.assertEqual((nest.least_ring("rows", "y"), nest.least_ring("bundles", "z.3.y")), (2 * HUGE + 1, 2))
        self.assertEqual((nest.least_cut("all", PATH + ".p"), nest.least_cut("all", PATH + ".q")), (2, 3))
        self.assertEqual((nest.least_cut("rows", "y"), nest.least_cut("bundles", "z.0.y")), (2, 2 * HUGE + 2))
        self.assertEqual((nest.least_cut("all", "w"), nest.least_ring("all", "w")), (1, None))
        self.assertEqual((nest.row_mates("rows", "y"), nest.row_mates("all", PATH + ".p"), nest.row_mates("all", "w"),
                          nest.row_mates("all", PATH + ".q")), (HUGE + 1, HUGE, 1, 1))
        self.assertEqual((nest.bundle_mates("all", PATH + ".q"), nest.bundle_mates("all", PATH + ".p"),
                          nest.bundle_mates("all", "v.0.z.0.y")), (2, 1, HUGE + 1))

    def test_sums_by_hand(self):
        nest = Nest(PARTS + f"block ring a b\nrow x one {HUGE} a b\nrow y one {HUGE} b a\nblock flat a b\npart p a b\n"
                    f"block wide a b\nbundle x flat {10 ** 20} a b\npart q a b\nbundle y one {10 ** 15} a b\n"
                    f"block long a b\nrow x flat {10 ** 30} a b\nuse z wide a b\npart u a a")
        self.assertEqual((nest.size("ring"), nest.way("ring"), nest.barrier("ring")), ((4 * HUGE, 1), 2 * HUGE, 2))
        self.assertEqual((nest.row_mates("ring", "x.5.p"), nest.least_ring("ring", "y.0.q")), (4 * HUGE, 4 * HUGE))
        wide = 10 ** 20 + 1 + 10 ** 15
        self.assertEqual((nest.size("wide"), nest.way("wide"), nest.barrier("wide")),
                         ((10 ** 20 + 1 + 2 * 10 ** 15, wide - 1), 1, wide))
        self.assertEqual((nest.bundle_mates("wide", "q"), nest.bundle_mates("wide", "x.77.p"),
                          nest.row_mates("wide", f"y.{10 ** 14}.p"), nest.least_cut("wide", "q"),
                          nest.least_ring("wide", "y.0.p")), (10 ** 20 + 1, 10 ** 20 + 1, 2, wide, 3))
        self.assertEqual((nest.size("long"), nest.row_mates("long", "x.0.p"), nest.least_ring("long", "x.9.p")),
                         ((10 ** 30 + wide + 10 ** 15 + 1, wide + 1), 10 ** 30, 10 ** 30 + 1))
        self.assertEqual((nest.row_mates("long", "u"), nest.bundle_mates("long", "u"), nest.least_ring("long", "u"),
                          nest.least_cut("long", "u"), nest.least_cut("long", "x.3.p")), (1, 1, 1, None, 2))

    def test_alike(self):
        nest = Nest(f"block one a b\npart p a m\npart q m b\nblock back a b\npart p m b\npart q a m\nblock about a b\n"
                    f"part p m a\npart q b m\nblock x1 a b\nrow r one {10 ** 30} a b\n"
                    f"block x2 a b\nrow r back {10 ** 30} a b\n"
                    f"block x3 a b\nrow r about {10 ** 30} a b\nblock x4 a b\nrow r about {10 ** 30} b a\n"
                    f"block x5 a b\nrow r one {10 ** 30 - 1} a b\nblock x6 a b\nbundle r one {10 ** 30} a b\n"
                    f"block x7 a b\nbundle r about {10 ** 30} a b\nblock x8 a b\nbundle r back {10 ** 30} b a\n"
                    f"block y1 a b\nuse u x6 a b\nbundle v x1 {10 ** 9} b a\nblock y2 a b\nuse u x7 b a\n"
                    f"bundle v x4 {10 ** 9} b a\nblock y3 a b\nuse u x7 a b\nbundle v x4 {10 ** 9} b a")
        rows = [[nest.alike(one, other), nest.alike_pieces(one, other)] for one, other in (
            ("one", "back"), ("one", "about"), ("x1", "x2"), ("x1", "x3"), ("x1", "x4"), ("x1", "x5"), ("x1", "x6"),
            ("x6", "x7"), ("x6", "x8"), ("x7", "x8"), ("y1", "y2"), ("y1", "y3"), ("y1", "y1"), ("x6", "x6"))]
        self.assertEqual(rows, [[True, True], [True, False], [True, True], [True, False], [True, True], [False, False],
                                [False, False], [True, False], [True, False], [True, True], [True, True],
                                [False, False], [True, True], [True, True]])

    def test_sixty_lines(self):
        # Twenty blocks, each in the one behind it.
        lines = ["block b0 a b", "part p a m", "part q m b"]
        for at in range(1, 20):
            lines += [f"block b{at} a b", f"{'row' if at % 2 else 'bundle'} x b{at - 1} 3 a b", f"use y b{at - 1} b a"]
        nest = Nest("\n".join(lines))
        self.assertEqual(nest.size("b19")[0], 2 * 4 ** 19)
        path = "".join(["x.2." if at % 3 else "y." for at in range(19)]) + "q"
        self.assertEqual(len(nest.ends("b19", path)), 2)
        self.assertGreater(nest.least_ring("b19", path), 1)
        self.assertEqual((nest.alike("b19", "b19"), nest.alike("b19", "b18"), nest.alike_pieces("b18", "b18")),
                         (True, False, True))
        self.assertEqual(nest.changed("b0", "q", "b", "m").alike("b19", "b19"), True)


class PathsTest(unittest.TestCase):

    def test_no_paths(self):
        nest = Nest(PAIRS)
        for block, path in (("pair", "x"), ("pair", "m"), ("pair", "p.q"), ("pair", "p."), ("net", "x"), ("net", "x."),
                            ("net", "x.m"), ("net", "y"), ("net", "y.7"), ("net", "y.p"), ("net", "y.1000.p"),
                            ("net", "y.07.p"), ("net", "y.00.p"), ("net", "y..p"), ("net", "y.7.p.q"), ("net", "x.0.p"),
                            ("net", "r.0"), ("far", "z.3"), ("far", "z.3.x"), ("far", "z.3.x.p.a"), ("far", "r"),
                            ("far", "z.10.r"), ("far", "z.r"), ("far", "zz.1.r"), ("far", "z.1r.r"), ("net", "y.7.m"),
                            ("net", "y." + "9" * 900 + ".p"), ("far", "z.1.y.1000.p"), ("net", "pair.p"),
                            ("net", "x..p")):
            for call in (nest.ends, nest.least_ring, nest.least_cut, nest.row_mates, nest.bundle_mates):
                with self.subTest(call.__name__, block=block, path=path):
                    with self.assertRaises(NoPart) as caught:
                        call(block, path)
                    self.assertEqual(caught.exception.part, path)
        self.assertEqual((nest.ends("net", "y.999.p"), nest.ends("net", "y.0.p")), (("c", "y.999.m"), ("c", "y.0.m")))

    def test_no_blocks(self):
        nest = Nest(PAIRS)
        for call in (nest.unfolded, nest.size, nest.way, nest.barrier):
            self.assertEqual(self.block_of(call, "none"), "none")
        for call in (nest.ends, nest.least_ring, nest.least_cut, nest.row_mates, nest.bundle_mates):
            self.assertEqual(self.block_of(call, "none", "no.path"), "none")
        for call in (nest.alike, nest.alike_pieces, nest.swapped):
            self.assertEqual(self.block_of(call, "none", "never"), "none")
            self.assertEqual(self.block_of(call, "pair", "never"), "never")
            self.assertEqual(self.block_of(call, "none", "pair"), "none")
        self.assertEqual(self.block_of(nest.changed, "none", "p", "a", "b"), "none")

    def block_of(self, call, *arguments):
        with self.assertRaises(NoBlock) as caught:
            call(*arguments)
        return caught.exception.block

    def test_parts_to_change(self):
        nest = Nest(PAIRS)
        for block, part in (("pair", "r"), ("net", "x"), ("net", "y"), ("net", "p"), ("far", "z"), ("pair", "m")):
            with self.assertRaises(NoPart) as caught:
                nest.changed(block, part, "a", "b")
            self.assertEqual(caught.exception.part, part)


class ChangedTest(unittest.TestCase):

    def test_changed(self):
        nest = Nest(PAIRS)
        told = nest.changed("turned", "q", "k", "k")
        self.assertEqual(told.text(), PAIRS.replace("part q m a", "part q k k"))
        self.assertEqual((nest.text(), told.unfolded("turned")), (PAIRS, (("p", "m", "b"), ("q", "k", "k"))))
        self.assertTrue(nest.changed("pair", "p", "a", "m") == nest)
        # Another block with a part, and one with a use, of the same WORD.
        text = "block a x y\npart p x y\nblock b x y\nuse p a x y\npart q x y\nblock c x y\npart q x y"
        self.assertEqual(Nest(text).changed("b", "q", "y", "x").text(),
                         text.replace("part q x y\nbl", "part q y x\nbl"))
        with self.assertRaises(NoPart):
            Nest(text).changed("b", "p", "y", "x")

    def test_swapped(self):
        # Parts and nodes have the WORDs of blocks, too.
        text = ("block a x y\npart p x y\nblock b x y\nuse a a x y\nblock c x y\nuse a a y x\nblock d a b\n"
                "use a b x y\nrow b a 3 x y\nbundle c a 2 y x\npart q a c\nuse d c a b")
        nest = Nest(text)
        self.assertEqual(nest.swapped("a", "c").text(),
                         text.replace("row b a", "row b c").replace("bundle c a", "bundle c c"))
        self.assertEqual(nest.swapped("a", "b").text(), text.replace("use a a y", "use a b y")
                         .replace("row b a", "row b b").replace("bundle c a", "bundle c b"))
        self.assertEqual(nest.swapped("b", "a").text(), text.replace("use a b", "use a a"))
        self.assertEqual(nest.swapped("c", "b").text(), text.replace("use d c", "use d b"))
        for one, other in (("d", "a"), ("a", "d"), ("a", "a"), ("c", "c")):
            self.assertTrue(nest.swapped(one, other) == nest)
        self.assertEqual(nest.text(), text)

    def test_swapped_pieces_change_nothing(self):
        # What is alike as a piece can take its place in every use, row and bundle.
        nest = Nest(PAIRS)
        text = PAIRS.replace("block net", "block sure a b\npart q a m\npart p m b\nblock net")
        for one, other in (("pair", "turned"), ("turned", "pair")):
            self.assertEqual(nest.swapped(one, other).size("far"), nest.size("far"))
        both = Nest(text + "\nblock again a b\npart r a b\nuse x turned a c\nbundle y turned 1000 c b")
        self.assertEqual((both.alike_pieces("net", "again"), both.alike("net", "again")), (True, True))
        self.assertFalse(Nest(text + "\nblock again a b\npart r a b\nuse x sure a c\nbundle y pair 1000 c b")
                         .alike("net", "again"))

    def test_by_names(self):
        nest = Nest(text=PAIRS)
        for name in ("unfolded", "size", "way", "barrier"):
            self.assertEqual(getattr(nest, name)(block="pair"), getattr(nest, name)("pair"))
        for name in ("ends", "least_ring", "least_cut", "row_mates", "bundle_mates"):
            self.assertEqual(getattr(nest, name)(block="far", path="z.3.y.7.q"),
                             getattr(nest, name)("far", "z.3.y.7.q"))
        for name in ("alike", "alike_pieces", "swapped"):
            self.assertEqual(getattr(nest, name)(block="pair", other="turned"), getattr(nest, name)("pair", "turned"))
        self.assertEqual(nest.changed(block="pair", part="p", start="a", end="b"), nest.changed("pair", "p", "a", "b"))

    def test_what_is_returned_is_plain(self):
        nest = Nest(PAIRS)
        self.assertIs(type(nest.blocks()), tuple)
        self.assertIs(type(nest.unfolded("pair")), tuple)
        self.assertEqual(opened(nest.unfolded("turned"), ("p",)), (("q", "m", "a"),))
        for told in (nest.size("net"), nest.ends("net", "r")):
            self.assertIs(type(told), tuple)
        for told in (nest.way("net"), nest.barrier("net"), nest.least_ring("net", "r"), nest.least_cut("net", "r"),
                     nest.row_mates("net", "r"), nest.bundle_mates("net", "r"), len(nest)):
            self.assertIs(type(told), int)
        for told in (nest.alike("net", "net"), nest.alike_pieces("net", "far"), "net" in nest):
            self.assertIs(type(told), bool)


if __name__ == "__main__":
    unittest.main()
