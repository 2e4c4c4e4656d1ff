"""[17]: requests as texts."""

import unittest

from sameloops.desk import answers
from sameloops.errors import BadLine
from sameloops.nests import Nest
from tests.sheets import PAIRS, SHEET, any_nest

GREAT = f"block one a b\npart p a m\npart q m b\nblock all a b\nrow x one {10 ** 30} a b\npart r a b"


def bad_line(text):
    """The number that BadLine keeps; None if none is raised."""
    try:
        answers(text)
    except BadLine as error:
        return error.number
    return None


def asked(sheet, *requests):
    return answers("\n".join([sheet, "", *requests]))


class ExamplesTest(unittest.TestCase):

    def test_examples(self):
        self.assertEqual(answers(SHEET + "\n\nsize loop\nring loop y.p\nrow loop x.1.q\npiece pair turned\n"
                                 "set turned p b m\npiece pair turned\nends turned p\nback\nback\ncut loop z"),
                         ["6 1", "6", "6", "yes", "done", "no", "b m", "done", "refused NothingDone",
                          "refused NoPart"])
        self.assertEqual(answers(SHEET + "\n\nway pair\nswap pair turned\nends loop x.0.p\nring pair p\n"
                                 "alike pair turned\nsize none"), ["2", "done", "x.0.m x.1", "-", "yes",
                                                                   "refused NoBlock"])
        self.assertEqual(bad_line(SHEET + "\n\nway"), 10)


class AnswersTest(unittest.TestCase):

    def test_each_request(self):
        self.assertEqual(asked(PAIRS, "size net", "size far", "way far", "way pair", "barrier far", "ends far z.3.x.p",
                               "ring net x.p", "ring pair p", "cut net y.7.p", "row net x.p", "bundle net r",
                               "alike pair net", "alike net net", "piece pair turned", "alike pair turned"),
                         ["2003 1000", "20030 10000", "10", "2", "2", "z.3 z.3.x.m", "5", "-", "2", "3", "1", "no",
                          "yes",
                          "yes", "yes"])
        self.assertEqual(asked("block a x y\npart p x z\npart l y y", "way a", "barrier a", "cut a l", "ring a l",
                               "cut a p", "ring a p", "row a p", "bundle a l", "ends a l"),
                         ["-", "0", "-", "1", "1", "-", "1", "1", "y y"])

    def test_great_numbers(self):
        self.assertEqual(asked(GREAT, "size all", "way one", "ring all x.5.p", "row all r",
                               f"ends all x.{10 ** 30 - 1}.q"),
                         [f"{2 * 10 ** 30 + 1} 1", "2", str(2 * 10 ** 30 + 1), str(2 * 10 ** 30 + 1),
                          f"x.{10 ** 30 - 1}.m b"])

    def test_against_the_nest(self):
        for seed in range(0, 40):
            text = any_nest(seed)
            nest = Nest(text)
            for block in nest.blocks():
                if nest.size(block)[0] < 8:
                    for part, start, end in nest.unfolded(block):
                        told = [nest.least_ring(block, part), nest.least_cut(block, part), nest.row_mates(block, part),
                                nest.bundle_mates(block, part)]
                        words = ["-" if number is None else str(number) for number in told]
                        self.assertEqual(asked(text, *[f"{word} {block} {part}" for word in
                                                       ("ring", "cut", "row", "bundle", "ends")]),
                                         words + [f"{start} {end}"])

    def test_no_requests(self):
        self.assertEqual((answers(SHEET + "\n"), answers("block a b c\n")), ([], []))
        told = answers(SHEET + "\n")
        told.append("done")
        self.assertEqual(answers(text=SHEET + "\n"), [])

    def test_refused(self):
        for request, name in (("size none", "NoBlock"), ("way none", "NoBlock"), ("barrier x", "NoBlock"),
                              ("ends none p", "NoBlock"), ("ring none p", "NoBlock"), ("cut none z.1", "NoBlock"),
                              ("row none p", "NoBlock"), ("bundle none p", "NoBlock"), ("alike pair none", "NoBlock"),
                              ("alike none pair", "NoBlock"), ("piece none never", "NoBlock"),
                              ("piece pair x", "NoBlock"),
                              ("set none p a b", "NoBlock"), ("swap pair none", "NoBlock"),
                              ("swap none pair", "NoBlock"),
                              ("ends pair m", "NoPart"), ("ring pair p.q", "NoPart"), ("cut loop x.2.p", "NoPart"),
                              ("row loop x.p", "NoPart"), ("bundle loop y.m", "NoPart"), ("set loop x a b", "NoPart"),
                              ("set pair r a b", "NoPart"), ("back", "NothingDone"), ("ends pair p.", "NoPart")):
            with self.subTest(request=request):
                self.assertEqual(asked(SHEET, request), ["refused " + name])
                self.assertEqual(asked(SHEET, "set pair p m m", request, "ends pair p", "back", "ends pair p"),
                                 ["done", "refused " + name, "m m", "done", "a m"] if request != "back" else
                                 ["done", "done", "a m", "refused NothingDone", "a m"])

    def test_back(self):
        self.assertEqual(asked(SHEET, "set pair p m a", "swap pair turned", "ends loop y.p", "back", "ends loop y.p",
                               "ends pair p", "set pair p b b", "ends pair p", "back", "ends pair p", "back",
                               "ends pair p", "back", "swap pair pair", "back", "back"),
                         ["done", "done", "y.m b", "done", "y.m a", "m a", "done", "b b", "done", "m a", "done", "a m",
                          "refused NothingDone", "done", "done", "refused NothingDone"])

    def test_deeds_go_on_from_one_another(self):
        self.assertEqual(asked(SHEET, "set turned p b m", "set turned q a m", "piece pair turned", "alike pair turned",
                               "swap pair turned", "swap turned pair", "ends loop x.0.q", "row loop x.0.q"),
                         ["done", "done", "no", "yes", "done", "done", "x.1 x.0.m", "6"])


class LinesTest(unittest.TestCase):

    def test_wrong_requests(self):
        for line in ("", " ", "size", "size ", "size pair loop", "size  pair", " size pair", "size pair ", "Size pair",
                     "sizes pair", "size Pair", "size pair.x", "size 1", "way", "way pair p", "barrier", "ends pair",
                     "ends pair p q", "ends pair P", "ends pair 1", "ends pair .p", "ends a.b p", "ring pair", "cut",
                     "cut pair p p", "row p", "row pair p,q", "bundle pair", "alike pair", "alike pair loop pair",
                     "alike pair x.y", "piece pair", "piece a.b c", "set pair p a", "set pair p a b c",
                     "set pair p.q a b",
                     "set pair p a.b c", "set pair p a b.", "set", "swap pair", "swap pair a.b", "swap", "back back",
                     "back ", " back", "Back", "back 1", "part p a b", "block x a b", "size\tpair", "size pair\r",
                     "undo", "done", "#", "size pair #", "set pair p 1 b", "ends pair p ", "use y pair a b"):
            with self.subTest(line=line):
                self.assertEqual(bad_line(SHEET + "\n\n" + line), 10)
                self.assertEqual(bad_line(SHEET + "\n\nsize none\nback\n" + line + "\nsize"), 12)

    def test_wrong_lines_of_the_nest(self):
        for text, number in (("", 0), ("\n", 0), ("\nsize a", 0), ("\n\n", 0), ("size pair", 0), ("block a b b\n\n", 0),
                             (SHEET, 9), (SHEET.replace("part q m a", "part q m A"), 4), (SHEET + "\nsize pair", 9),
                             (SHEET + "\nx\n\nsize", 9), (SHEET.replace("row", "rows") + "\n\nsize", 7),
                             ("block a b c", 1), ("block a b c\npart p b c", 2), (" \n\nsize a", 0),
                             (SHEET + "\n \n\nsize pair", 9), (SHEET + "\n\nsize pair\n", 11),
                             (SHEET + "\n\n\nsize pair", 10), ("part p a b\n\n", 0)):
            with self.subTest(text=text):
                self.assertEqual(bad_line(text), number)

    def test_ahead_of_all_answers(self):
        self.assertEqual(bad_line(SHEET + "\n\nsize none\nsize pair\nway"), 12)


if __name__ == "__main__":
    unittest.main()
