"""[15]: texts."""

import unittest

from sameloops.errors import BadLine
from sameloops.posts import is_unit
from sameloops.texts import (amounts_in, amounts_text, names_in, names_text, netlist_in, signed_in, signed_text,
                             unit_in, unit_text, wiring_in, wiring_text)
from sameloops.wirings import is_wiring, parts
from tests.support import GATE, GROUPS, HOUSE, LOOP, NESTED, POINTED, SAME_NAMES, SQUARE, WIRINGS, all_wirings, subsets

NETLIST = ("# a lamp and its switch\n lamp  out  back\njoin back ground zero # one pole\nswitch in out\n\n"
           "battery zero in")
LONG = "x" * 1000


def bad_line(call, *arguments):
    """The number that BadLine keeps; None if none is raised."""
    try:
        call(*arguments)
    except BadLine as error:
        return error.number
    return None


class ExamplesTest(unittest.TestCase):

    def test_wirings(self):
        self.assertEqual((wiring_text(LOOP), wiring_in("a n m\nb m k\nc k n") == LOOP, wiring_in(""), wiring_text(())),
                         ("a n m\nb m k\nc k n", True, (), ""))
        self.assertEqual(bad_line(wiring_in, "b m k\na n m"), 1)

    def test_signed_and_amounts(self):
        self.assertEqual(signed_text((("a", "along"), ("c", "against"))), "+a -c")
        self.assertEqual(signed_in(LOOP, "+a -c"), (("a", "along"), ("c", "against")))
        self.assertEqual(amounts_text(LOOP, (7, 0, -12)), "a: 7\nb: 0\nc: -12")
        self.assertEqual(amounts_in(LOOP, "a: 7\nb: 0\nc: -12"), (7, 0, -12))
        self.assertEqual(bad_line(amounts_in, LOOP, "a: 7\nb: 0"), 2)

    def test_names_and_units(self):
        self.assertEqual((names_in(LOOP, "a c"), unit_text((LOOP, ("n", "k"))),
                          unit_in("posts: k\na k k") == ((("a", "k", "k"),), ("k",))),
                         (("a", "c"), "posts: n k\na n m\nb m k\nc k n", True))
        self.assertEqual(bad_line(names_in, LOOP, "c a"), 0)

    def test_netlists(self):
        self.assertEqual(netlist_in(NETLIST),
                         (("battery", "back", "in"), ("lamp", "out", "back"), ("switch", "in", "out")))
        self.assertEqual(bad_line(netlist_in, "a n m\njoin n\na m n"), 1)


class WiringTest(unittest.TestCase):

    def test_there_and_back(self):
        for wiring in (*WIRINGS, NESTED, *all_wirings(2), *all_wirings(3)[::5], ((LONG, LONG, "k"),)):
            text = wiring_text(wiring)
            self.assertEqual(wiring_in(text), wiring)
            self.assertTrue(is_wiring(wiring_in(text)))
            self.assertEqual(wiring_text(wiring_in(text)), text)

    def test_wrong_lines(self):
        for line in ("", " ", "a", "a n", "a n m k", "a  n m", "a n  m", " a n m", "a n m ", "A n m", "a N m", "a n 1",
                     "1 n m", "a\tn m", "a n m\r", "a n m\t", "a, n m", ".a n m", "a n .m", "a n m#", "a_b n m", "#",
                     "a\u00a0n m", "\u00e9 n m", "a n m\u2028b m k", "a n m;"):
            with self.subTest(line=line):
                self.assertEqual(bad_line(wiring_in, line + "\n"), 0)
                self.assertEqual(bad_line(wiring_in, "a.0 k l\n" + line.replace("a n m", "b n m")), 1)
                if line:
                    self.assertEqual(bad_line(wiring_in, line), 0)

    def test_ascending_by_name(self):
        for text, number in (("a n m\na n m", 1), ("a n m\na x y", 1), ("a n m\nc n m\nb n m", 2),
                             ("a1 n m\na.1 n m", 1),
                             ("a10 n m\na2 n m\na2 n n", 2), ("b n m\na n m\nc", 1), ("a n m\n", 1),
                             ("a n m\nb n m\n\n", 2), ("\na n m", 0), ("a n m\nc n m\nb n m\na", 2)):
            self.assertEqual(bad_line(wiring_in, text), number)
        self.assertEqual(wiring_in("a.1 n m\na1 n m"), (("a.1", "n", "m"), ("a1", "n", "m")))


class SignedTest(unittest.TestCase):

    def test_there_and_back(self):
        for wiring in (HOUSE, POINTED, GATE):
            for names in subsets(parts(wiring))[::3]:
                pairs = tuple([(name, ("along", "against")[at % 2]) for at, name in enumerate(names)])
                self.assertEqual(signed_in(wiring, signed_text(pairs)), pairs)
                self.assertEqual(names_in(wiring, names_text(names)), names)
        self.assertEqual((signed_text(()), signed_in(LOOP, ""), signed_in((), "")), ("", (), ()))
        self.assertEqual((names_text(()), names_in(LOOP, ""), names_in((), "")), ("", (), ()))

    def test_any_order_and_twice(self):
        self.assertEqual(signed_in(LOOP, "-c +a +a -a"),
                         (("c", "against"), ("a", "along"), ("a", "along"), ("a", "against")))
        self.assertEqual(signed_text((("c", "against"), ("a", "along"), ("a", "along"))), "-c +a +a")
        self.assertEqual(names_text(("c", "a")), "c a")

    def test_wrong_signed(self):
        for line in ("a", "+", "-", "+z", "+ a", "+a  -b", " +a", "+a ", " ", "++a", "+-a", "*a", "+a-b", "+a,-b", "+A",
                     "+a\t-b", "+a -z", "along", "+a b", "-d", "+a\r", "+ab", "\u2212a"):
            with self.subTest(line=line):
                self.assertEqual(bad_line(signed_in, LOOP, line), 0)
                self.assertEqual(bad_line(signed_in, LOOP, line + "\n"), 0)
        for text in ("+a\n", "+a\n+b", "\n", "\n+a", "+a -b\n\n\n"):
            self.assertEqual(bad_line(signed_in, LOOP, text), 1)
        self.assertEqual(bad_line(signed_in, (), "+a"), 0)

    def test_wrong_names(self):
        for line in ("z", "a z", "c a", "a a", "a b b", "a  b", " a", "a ", " ", "A", "a,b", "+a", "a\tb", "a\r",
                     "b a c"):
            with self.subTest(line=line):
                self.assertEqual(bad_line(names_in, LOOP, line), 0)
                self.assertEqual(bad_line(names_in, LOOP, line + "\n"), 0)
        for text in ("a\n", "a\nb", "\n", "\na", "a b c\n\n"):
            self.assertEqual(bad_line(names_in, LOOP, text), 1)
        self.assertEqual(bad_line(names_in, (), "a"), 0)


class AmountsTest(unittest.TestCase):

    def test_there_and_back(self):
        for wiring in (*WIRINGS, NESTED):
            amounts = tuple([(at - 2) * 10 ** (3 * at) for at in range(len(wiring))])
            text = amounts_text(wiring, amounts)
            self.assertEqual(amounts_in(wiring, text), amounts)
            self.assertEqual(text.count("\n"), max(len(wiring) - 1, 0))
        self.assertEqual((amounts_text((), ()), amounts_in((), "")), ("", ()))

    def test_numbers(self):
        one = LOOP[:1]
        for word in ("0", "7", "-7", "10", "-10", "9" * 60, "-" + "9" * 60, "1" + "0" * 59):
            self.assertEqual(amounts_in(one, "a: " + word), (int(word),))
        for word in ("00", "07", "-0", "-07", "+7", "--7", "-", "", "7-", "1_0", "1.0", "x", "9" * 61, "-" + "9" * 61,
                     "0" * 60, "1 0", " 7", "7 ", "\u0661", "1e3", "\u00b2", "7\r", "0x1", "- 7"):
            with self.subTest(word=word):
                self.assertEqual(bad_line(amounts_in, one, "a: " + word), 0)
                self.assertEqual(bad_line(amounts_in, LOOP, "a: 1\nb: " + word + "\nc: 1"), 1)

    def test_wrong_lines(self):
        for text, number in (("", 0), ("\n", 0), ("a: 1", 1), ("a: 1\n", 1), ("a: 1\nb: 2\nc: 3\n", 3),
                             ("a: 1\nb: 2\nc: 3\nd: 4", 3), ("b: 1\na: 2\nc: 3", 0), ("a: 1\nc: 2\nb: 3", 1),
                             ("a:1\nb: 2\nc: 3", 0), ("a : 1", 0), ("a 1", 0), ("a:  1", 0), (" a: 1", 0), ("a: 1 ", 0),
                             ("a: 1\n\nb: 2", 1), ("A: 1", 0), ("a:: 1", 0), ("a: 1\nb: 2\nx", 2), ("a:\t1", 0),
                             ("a: 1\na: 2\nb: 3", 1), ("a: 1 b: 2", 0), (":", 0), ("a:", 0)):
            with self.subTest(text=text):
                self.assertEqual(bad_line(amounts_in, LOOP, text), number)
        for text in ("\n", "a: 1", " ", ": 1"):
            self.assertEqual(bad_line(amounts_in, (), text), 0)


class UnitTest(unittest.TestCase):

    def test_there_and_back(self):
        for wiring in (*WIRINGS, SQUARE):
            for posts in ((), ("p",), ("z", "a", "k.1"), ("r", "q", "p"), ("posts",)):
                unit = (wiring, posts)
                told = unit_in(unit_text(unit))
                self.assertEqual(told, unit)
                self.assertTrue(is_unit(told))
        self.assertEqual((unit_text(((), ())), unit_text(((), ("b", "a"))), unit_text((LOOP[:1], ()))),
                         ("posts:", "posts: b a", "posts:\na n m"))

    def test_wrong_units(self):
        for line in ("", "posts", "posts :", "posts: ", " posts:", "posts:  a", "posts: a ", "posts: a a",
                     "posts: a b a", "posts: A", "posts: a,b", "posts:a", "Posts: a", "a n m", "posts: 1", "post: a",
                     "posts:\ta", "posts: a\r", "posts:: a"):
            with self.subTest(line=line):
                self.assertEqual(bad_line(unit_in, line), 0)
                self.assertEqual(bad_line(unit_in, line + "\nx"), 0)
        for text, number in (("posts: a\n", 1), ("posts:\n\n", 1), ("posts: a\na n", 1), ("posts: a\nb n m\na n m", 2),
                             ("posts: a\na n m\na k l", 2), ("posts: a\na n m\nb n m\n", 3), ("posts: a\nposts: b", 1),
                             ("posts: a\na n m ", 1)):
            self.assertEqual(bad_line(unit_in, text), number)


class NetlistTest(unittest.TestCase):

    def test_any_order_and_blanks(self):
        self.assertEqual(netlist_in("  c   k n # x\n\na n m#\n   \n#\nb m   k   "), LOOP)
        self.assertEqual((netlist_in(""), netlist_in("\n\n"), netlist_in("# a n m"), netlist_in("join a b"),
                          netlist_in("a n m # b m k\n")), ((), (), (), (), LOOP[:1]))
        for wiring in (*WIRINGS, NESTED, SAME_NAMES, GROUPS):
            lines = wiring_text(wiring).split("\n")
            self.assertEqual(netlist_in("\n".join(lines[::-1])), wiring)

    def test_join(self):
        self.assertEqual(netlist_in("join m z\na n m\nb z k"), (("a", "n", "m"), ("b", "m", "k")))
        # The least of the NAMEs, also if no part ends there, in whatever order the lines stand.
        for text in ("a n m\njoin m c\njoin b n\njoin n m", "join n m\njoin b n\na n m\njoin m c",
                     "join c m\njoin n b\njoin m n\na n m", "join n b c m\na n m",
                     "a n m\njoin m m n\njoin n b\njoin c b"):
            self.assertEqual(netlist_in(text), (("a", "b", "b"),))
        self.assertEqual(netlist_in("a n m\njoin n n\njoin x y"), LOOP[:1])
        self.assertEqual(netlist_in("join a1 n\njoin a.1 m\na m n\njoin m n"), (("a", "a.1", "a.1"),))
        # A node may be called join, a part may be called as a node.
        self.assertEqual(netlist_in("n join m\njoin join k"), (("n", "join", "m"),))
        self.assertEqual(netlist_in("n k joins\njoined a b"), (("joined", "a", "b"), ("n", "k", "joins")))

    def test_wrong_lines(self):
        for line in ("a", "a n", "a n m k", "join", "join n", "join n N", "join n 1", "join n m, k", "A n m", "a n M",
                     "1 n m", "a\tn m", "a n m\t", "a n m\r", "\t", "a, n m", "join n .m", "a n m\x00",
                     "a n m;", "- n m", "join a b C", "Join n m", "\u00a0", "a n m\u2028"):
            with self.subTest(line=line):
                self.assertEqual(bad_line(netlist_in, line), 0)
                self.assertEqual(bad_line(netlist_in, "x k l\n\n# y\n  " + line + "  # z\ny"), 3)
        for text, number in (("a n m\na n m", 1), ("a n m\nb n m\n# a\n a k l", 3), ("a n m\njoin a a\na", 2),
                             ("a n m # x\na # n m", 1), ("b n m\na n m\nb k l\nb", 2), ("join x y\njoin # x y", 1)):
            self.assertEqual(bad_line(netlist_in, text), number)


if __name__ == "__main__":
    unittest.main()
