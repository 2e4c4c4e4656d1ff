"""[1], [2] and [18]: what binds all functions: names, kinds of values, lists for tuples, nothing changed."""

import copy
import inspect
import unittest

from sameloops import rings as rings_file
from sameloops import wirings as wirings_file
from sameloops.rings import Stream
from tests.support import EIGHT, GROUPS, HOUSE, SQUARE, holds_list, listed

STREAM = (3, 3, 1, 5, 0, -2)
DROPS = (4, -1, -3, 0, 2, 3)
RING = (("c", "along"), ("f", "along"))
CUT = (("a", "along"), ("b", "against"))
# For each function: the names of its parameters, a list of arguments, and the kind of value that it returns.
WIRINGS = {
    "is_wiring": (("thing",), [(HOUSE,), (7,)], bool),
    "nodes": (("wiring",), [(HOUSE,), ((),)], tuple),
    "parts": (("wiring",), [(HOUSE,), ((),)], tuple),
    "groups": (("wiring",), [(GROUPS,), ((),)], list),
    "blocks": (("wiring",), [(EIGHT,), ((),)], list),
    "rank": (("wiring",), [(HOUSE,), ((),)], int),
    "forest": (("wiring",), [(HOUSE,), ((),)], tuple),
    "opened": (("wiring", "names"), [(HOUSE, ("b", "c")), (HOUSE, ())], tuple),
    "bridged": (("wiring", "names"), [(HOUSE, ("b", "e")), (HOUSE, ())], tuple),
    "reversed_parts": (("wiring", "names"), [(HOUSE, ("a", "d")), (HOUSE, ())], tuple),
    "joined_nodes": (("wiring", "node", "other"), [(HOUSE, "x", "m"), (HOUSE, "x", "x")], tuple),
    "same_drawing": (("wiring", "other"), [(HOUSE, HOUSE), (HOUSE, GROUPS)], bool),
}
RINGS = {
    "rings": (("wiring",), [(HOUSE,), ((),)], list),
    "cuts": (("wiring",), [(HOUSE,), ((),)], list),
    "is_ring": (("wiring", "thing"), [(HOUSE, RING), (HOUSE, ())], bool),
    "is_cut": (("wiring", "thing"), [(HOUSE, CUT), (HOUSE, ())], bool),
    "ring_over": (("wiring", "part"), [(HOUSE, "c"), (HOUSE, "f")], tuple),
    "cut_over": (("wiring", "part"), [(HOUSE, "a"), (HOUSE, "e")], tuple),
    "ring_table": (("wiring",), [(HOUSE,), ((),)], tuple),
    "ring_through": (("wiring", "part", "other"), [(HOUSE, "c", "f"), (SQUARE, "a", "d")], tuple),
    "cut_through": (("wiring", "part", "other"), [(HOUSE, "a", "b"), (SQUARE, "d", "a")], tuple),
    "Stream": (("wiring", "amounts"), [(HOUSE, STREAM), ((), ())], Stream),
    "is_stream": (("wiring", "thing"), [(HOUSE, STREAM), (HOUSE, DROPS)], bool),
    "is_drops": (("wiring", "thing"), [(HOUSE, STREAM), (HOUSE, DROPS)], bool),
    "heights": (("wiring", "drops"), [(HOUSE, DROPS), (GROUPS, (0,) * 5)], tuple),
}
ROWS = [(wirings_file, name, *row) for name, row in WIRINGS.items()]
ROWS += [(rings_file, name, *row) for name, row in RINGS.items()]
METHODS = {"amounts": (), "at": ("part",), "split": (), "__init__": ("wiring", "amounts"), "__add__": None,
           "__sub__": None, "__neg__": (), "__mul__": None, "__len__": (), "__eq__": None}
CALLS = [(getattr(file, name), words, arguments, kind) for file, name, words, rows, kind in ROWS for arguments in rows]


def told_lists(told):
    """Whether a list stands in what is returned, but for the one that it may be itself."""
    return isinstance(told, (tuple, list)) and any(holds_list(item) for item in told)


def with_lists(words, arguments):
    """The arguments with lists for tuples, but for a thing, which is taken as it is."""
    return [value if word == "thing" else listed(value) for word, value in zip(words, arguments)]


class CallsTest(unittest.TestCase):

    def test_defined_in_its_file_with_its_parameters(self):
        for file, name, words, _, _ in ROWS:
            with self.subTest(name):
                found = getattr(file, name)
                self.assertEqual(found.__module__, file.__name__)
                self.assertEqual(tuple(inspect.signature(found).parameters), words)

    def test_methods_stand_in_the_class_itself(self):
        for name, words in METHODS.items():
            with self.subTest(name):
                self.assertIn(name, vars(Stream))
                if words is not None:
                    self.assertEqual(tuple(inspect.signature(vars(Stream)[name]).parameters)[1:], words)

    def test_kinds_of_values(self):
        for call, _, arguments, kind in CALLS:
            with self.subTest(call.__name__, arguments=arguments):
                told = call(*arguments)
                self.assertIs(type(told), kind)
                self.assertFalse(told_lists(told))

    def test_by_names(self):
        for call, words, arguments, _ in CALLS:
            with self.subTest(call.__name__, arguments=arguments):
                self.assertEqual(call(**dict(zip(words, arguments))), call(*arguments))

    def test_lists_for_tuples(self):
        for call, words, arguments, kind in CALLS:
            with self.subTest(call.__name__, arguments=arguments):
                told = call(*with_lists(words, arguments))
                self.assertEqual(told, call(*arguments))
                self.assertFalse(told_lists(told))

    def test_arguments_stay_as_they_are(self):
        for call, words, arguments, _ in CALLS:
            with self.subTest(call.__name__, arguments=arguments):
                given = with_lists(words, arguments)
                kept = copy.deepcopy(given)
                call(*given)
                self.assertEqual(given, kept)

    def test_lists_are_new_and_calls_repeat(self):
        for call, _, arguments, kind in CALLS:
            with self.subTest(call.__name__, arguments=arguments):
                told, kept = call(*arguments), copy.deepcopy(call(*arguments))
                if kind is list:
                    told.append(None)
                self.assertEqual(call(*arguments), kept)

    def test_things_that_are_lists_stay_lists(self):
        for call, thing in ((rings_file.is_ring, RING), (rings_file.is_cut, CUT), (rings_file.is_stream, STREAM),
                            (rings_file.is_drops, DROPS)):
            self.assertEqual((call(listed(HOUSE), thing), call(listed(HOUSE), listed(thing))), (True, False))

    def test_stream_methods_by_name(self):
        self.assertEqual(Stream(wiring=HOUSE, amounts=STREAM).at(part="f"), -2)


if __name__ == "__main__":
    unittest.main()
