"""[1], [2] and [18]: what binds all functions: names, kinds of values, lists for tuples, nothing changed."""

import copy
import inspect
import unittest

from sameloops import alike as alike_file
from sameloops import bench as bench_file
from sameloops import desk as desk_file
from sameloops import drawn as drawn_file
from sameloops import forms as forms_file
from sameloops import nests as nests_file
from sameloops import posts as posts_file
from sameloops import rings as rings_file
from sameloops import settle as settle_file
from sameloops import switches as switches_file
from sameloops import texts as texts_file
from sameloops import turns as turns_file
from sameloops import wirings as wirings_file
from sameloops.board import Board
from sameloops.nests import Nest
from sameloops.rings import Stream
from tests.sheets import PAIRS, SHEET
from tests.support import (EIGHT, GATE, GROUPS, HOUSE, LOOP, LOOSE, NESTED, ONE, OTHER, SQUARE, THIRD, TURNED_SQUARE,
                           half_listed, holds_list, listed)

STREAM = (3, 3, 1, 5, 0, -2)
DROPS = (4, -1, -3, 0, 2, 3)
RING = (("c", "along"), ("f", "along"))
CUT = (("a", "along"), ("b", "against"))
# For each function: the names of its parameters, a list of arguments, and the kind of value that it returns.
WIRINGS = {
    "is_wiring": (("thing",), [(HOUSE,), (7,)], bool),
    "nodes": (("wiring",), [(HOUSE,), ((),)], tuple),
    "parts": (("wiring",), [(HOUSE,), ((),)], tuple),
    "groups": (("wiring",), [(GROUPS,), ((),)], list),
    "blocks": (("wiring",), [(EIGHT,), ((),)], list),
    "rank": (("wiring",), [(HOUSE,), ((),)], int),
    "forest": (("wiring",), [(HOUSE,), ((),)], tuple),
    "opened": (("wiring", "names"), [(HOUSE, ("b", "c")), (HOUSE, ())], tuple),
    "bridged": (("wiring", "names"), [(HOUSE, ("b", "e")), (HOUSE, ())], tuple),
    "reversed_parts": (("wiring", "names"), [(HOUSE, ("a", "d")), (HOUSE, ())], tuple),
    "joined_nodes": (("wiring", "node", "other"), [(HOUSE, "x", "m"), (HOUSE, "x", "x")], tuple),
    "same_drawing": (("wiring", "other"), [(HOUSE, HOUSE), (HOUSE, GROUPS)], bool),
}
RINGS = {
    "rings": (("wiring",), [(HOUSE,), ((),)], list),
    "cuts": (("wiring",), [(HOUSE,), ((),)], list),
    "is_ring": (("wiring", "thing"), [(HOUSE, RING), (HOUSE, ())], bool),
    "is_cut": (("wiring", "thing"), [(HOUSE, CUT), (HOUSE, ())], bool),
    "ring_over": (("wiring", "part"), [(HOUSE, "c"), (HOUSE, "f")], tuple),
    "cut_over": (("wiring", "part"), [(HOUSE, "a"), (HOUSE, "e")], tuple),
    "ring_table": (("wiring",), [(HOUSE,), ((),)], tuple),
    "ring_through": (("wiring", "part", "other"), [(HOUSE, "c", "f"), (SQUARE, "a", "d")], tuple),
    "cut_through": (("wiring", "part", "other"), [(HOUSE, "a", "b"), (SQUARE, "d", "a")], tuple),
    "Stream": (("wiring", "amounts"), [(HOUSE, STREAM), ((), ())], Stream),
    "is_stream": (("wiring", "thing"), [(HOUSE, STREAM), (HOUSE, DROPS)], bool),
    "is_drops": (("wiring", "thing"), [(HOUSE, STREAM), (HOUSE, DROPS)], bool),
    "heights": (("wiring", "drops"), [(HOUSE, DROPS), (GROUPS, (0,) * 5)], tuple),
}
BOTH = ("one", "other")
KNOWN = ("wiring", "what", "known")
AMOUNTS = (*KNOWN, "amounts")
PAIR = ("b", "along"), ("e", "against")
ALIKE = {
    "alike": (BOTH, [(ONE, OTHER), (ONE, THIRD), ((), ())], bool),
    "unlike": (BOTH, [(ONE, THIRD), (THIRD, OTHER)], tuple),
    "is_unlike": ((*BOTH, "thing"), [(ONE, THIRD, (0, PAIR)), (ONE, OTHER, (0, PAIR))], bool),
    "least_unlike": (BOTH, [(ONE, THIRD), (THIRD, OTHER)], tuple),
    "unlike_cut": (BOTH, [(ONE, THIRD), (THIRD, OTHER)], tuple),
    "is_unlike_cut": ((*BOTH, "thing"), [(ONE, THIRD, (0, (("a", "along"), ("c", "against")))), (ONE, OTHER, 5)], bool),
    "test_of": (("wiring", "ring"), [(ONE, PAIR), (HOUSE, RING)], tuple),
    "grouped": (("wirings",), [((ONE, THIRD, OTHER, HOUSE),), ((),)], tuple),
    "alike_without": (BOTH, [(ONE, THIRD), (ONE, OTHER)], tuple),
    "alike_if_bridged": (BOTH, [(ONE, THIRD), (ONE, OTHER)], tuple),
}
TURNS = {
    "classes_at": (("wiring", "node", "other"), [(SQUARE, "p", "r"), (EIGHT, "k", "o")], list),
    "doors": (("wiring", "piece"), [(SQUARE, ("a", "b")), (NESTED, ("d2", "d3"))], tuple),
    "is_piece": (("wiring", "thing"), [(SQUARE, ("a", "b")), (SQUARE, ("b", "c"))], bool),
    "turned": (("wiring", "piece"), [(SQUARE, ("a", "b")), (NESTED, ("f1", "f2", "f3"))], tuple),
    "turned_all": (("wiring", "pieces"), [(SQUARE, (("a", "b"), ("c", "d"))), (SQUARE, ())], tuple),
    "drawn_alike": (BOTH, [(SQUARE, TURNED_SQUARE), (SQUARE, SQUARE)], bool),
    "turns_to": (BOTH, [(SQUARE, TURNED_SQUARE), (ONE, OTHER), (GATE, GATE)], tuple),
    "are_turns": ((*BOTH, "thing"), [(SQUARE, TURNED_SQUARE, (("a", "b"),)), (SQUARE, TURNED_SQUARE, ())], bool),
}
FORMS = {
    "rank_of": (("wiring", "names"), [(SQUARE, ("a", "c", "d")), (SQUARE, ())], int),
    "strong": (("wiring", "part"), [(NESTED, "f4"), (HOUSE, "d")], list),
    "cells_of": (("wiring", "part"), [(NESTED, "f4"), (HOUSE, "d")], list),
    "chain_mates": (("wiring", "part"), [(EIGHT, "d"), (HOUSE, "e")], tuple),
    "bundle_mates": (("wiring", "part"), [(SQUARE, "d"), (HOUSE, "d")], tuple),
    "drawings": (("wiring", "part"), [(NESTED, "f4"), (HOUSE, "d")], int),
    "how_many": (("wiring",), [(HOUSE,), ((),)], int),
    "form": (("wiring",), [(NESTED,), (HOUSE,), ((),)], tuple),
    "drawing": (("wiring", "part", "number"), [(NESTED, "f4", 17), (HOUSE, "d", 0)], tuple),
    "number_of": (("wiring", "part"), [(NESTED, "f4"), (HOUSE, "d")], int),
}
SETTLE = {
    "settled": (KNOWN, [(HOUSE, "current", ("a",)), (HOUSE, "voltage", ("a", "b"))], tuple),
    "settles_all": (KNOWN, [(HOUSE, "current", ("a", "c", "d")), (HOUSE, "voltage", ())], bool),
    "always_zero": (("wiring", "what"), [(HOUSE, "current"), (HOUSE, "voltage")], tuple),
    "sum_for": ((*KNOWN, "part"), [(HOUSE, "current", ("a", "c"), "f"), (HOUSE, "voltage", ("a", "b"), "c"),
                                   (HOUSE, "voltage", ("a", "b"), "b"), (HOUSE, "current", (), "e")], tuple),
    "is_sum": (("wiring", "what", "part", "thing"), [(HOUSE, "current", "f", (("a", -1), ("c", 1))),
                                                     (HOUSE, "voltage", "f", ())], bool),
    "unsettled": ((*KNOWN, "part"), [(HOUSE, "current", ("a",), "f"), (HOUSE, "voltage", ("a",), "b")], tuple),
    "equal": (("wiring", "what", "part", "other"), [(HOUSE, "current", "a", "b"), (HOUSE, "voltage", "c", "f")], int),
    "mates": (("wiring", "what"), [(HOUSE, "current"), (LOOP, "voltage")], list),
    "least_meters": (("wiring", "what"), [(HOUSE, "current"), (LOOP, "voltage")], int),
    "meter_sets": (("wiring", "what"), [(HOUSE, "current"), (LOOP, "voltage")], list),
    "many_meter_sets": (("wiring",), [(HOUSE,), ((),)], int),
    "cheapest_meters": (("wiring", "what", "prices"), [(HOUSE, "current", (5, 1, 2, 9, 7, 4)),
                                                       (LOOP, "voltage", (0, 0, -1))], tuple),
    "spare": (KNOWN, [(LOOP, "current", ("a", "b")), (LOOP, "voltage", ())], int),
    "blinding": (KNOWN, [(LOOP, "current", ("a", "b")), (LOOP, "voltage", ("a", "b", "c")), (LOOP, "voltage", ())],
                 tuple),
    "possible": (AMOUNTS, [(HOUSE, "current", ("a", "b"), (3, 4)), (LOOP, "voltage", ("a",), (3,))], bool),
    "completed": (AMOUNTS, [(HOUSE, "current", ("a", "d"), (3, 4)), (LOOP, "voltage", ("a", "b"), (2, 5))], tuple),
    "contradiction": (AMOUNTS, [(HOUSE, "current", ("a", "b"), (3, 4)), (LOOP, "voltage", ("a", "b", "c"), (1, 1, 1))],
                      tuple),
    "suspects": (AMOUNTS, [(HOUSE, "current", ("a", "b"), (3, 4)), (LOOP, "voltage", ("a", "b"), (1, 1))], tuple),
    "shows_one_wrong": (KNOWN, [(LOOP, "current", ("a", "b")), (LOOP, "voltage", ("a",))], bool),
    "names_one_wrong": (KNOWN, [(LOOP, "current", ("a", "b", "c")), (LOOP, "voltage", ("a",))], bool),
}
RULES = (("a", ("resistor", 1)), ("b", ("resistor", 2)), ("c", ("resistor", 1)), ("d", ("battery", -6)),
         ("e", ("line", 1, 2, 3)))
FREE = tuple([(part, ("any",)) for part in "abcde"])
STATE = tuple([(part, (1, 2), (0, 1)) for part in "abc"])
BENCH = {
    "is_rule_row": (("wiring", "thing"), [(ONE, RULES), (LOOP, RULES)], bool),
    "is_state_row": (("wiring", "thing"), [(LOOP, STATE), (ONE, STATE)], bool),
    "is_state": (("wiring", "rules", "rows"), [(LOOP, FREE[:3], STATE), (LOOP, RULES[:3], STATE)], bool),
    "some_state": (("wiring", "rules"), [(ONE, RULES), (ONE, FREE), ((), ())], tuple),
    "bench": (("wiring", "rules"), [(ONE, RULES), (ONE, FREE), ((), ())], tuple),
    "freedom": (("wiring", "rules"), [(ONE, RULES), (ONE, FREE), ((), ())], int),
    "same_states": ((*BOTH, "rules"), [(ONE, OTHER, RULES), (ONE, THIRD, RULES)], bool),
    "seen": (("wiring", "rules", "part"), [(ONE, RULES, "b"), (ONE, FREE, "b")], tuple),
    "power": (("rows",), [(STATE,), ((),)], tuple),
    "cross": (("rows", "others"), [(STATE, STATE), ((), ())], tuple),
    "cross_states": (BOTH, [(ONE, THIRD), (THIRD, OTHER)], tuple),
    "possible_states": (("wiring", "tables"), [(LOOP, tuple([(part, ((1, 0), (0, 0))) for part in "abc"])), ((), ())],
                        tuple),
}
UNIT = (LOOP, ("n", "k"))
SPARE = (tuple([("x" + part, start, end) for part, start, end in LOOP]), ("k", "z"))
POSTS = {
    "is_unit": (("thing",), [(UNIT,), (LOOP,)], bool),
    "unit_of": (("wiring", "names"), [(HOUSE, ("a", "b")), (HOUSE, ())], tuple),
    "put_into": (("unit", "surrounding"), [(UNIT, (("x", "n", "y"),)), (((), ()), HOUSE)], tuple),
    "in_place": (("wiring", "unit"), [(HOUSE, ((("b", "k", "q"), ("e", "q", "m")), ("m", "k"))), (HOUSE, ((), ()))],
                 tuple),
    "turned_about": (("unit",), [(UNIT,), (SPARE,)], tuple),
    "post_table": (("unit",), [(UNIT,), (SPARE,), (((), ()),)], tuple),
    "stand_for": (("unit", "other"), [(UNIT, UNIT), (UNIT, (LOOP, ("n", "z")))], bool),
    "foil": (("unit", "other"), [(UNIT, (LOOP, ("n", "z"))), (UNIT, (LOOSE, ("n", "z")))], tuple),
    "joined_units": (("unit", "other", "pairs"), [(UNIT, SPARE, ((1, 0),)), (UNIT, SPARE, ())], tuple),
}
SWITCHES = {
    "set_to": (("wiring", "switches", "closed"), [(HOUSE, ("b", "c"), ("c",)), (HOUSE, (), ())], tuple),
    "lit": (("wiring", "source", "lamp"), [(HOUSE, "a", "b"), (HOUSE, "d", "e")], str),
    "lit_by": (("wiring", "source", "lamp"), [(GATE, "a", "e"), (HOUSE, "d", "e")], list),
    "lights": (("wiring", "switches", "source", "lamp"), [(HOUSE, ("b", "c"), "a", "f"), (HOUSE, (), "d", "e")], list),
    "idle": (("wiring", "switches"), [(HOUSE, ("c", "d", "e")), (HOUSE, ())], tuple),
    "parting_setting": (("wiring", "other", "switches"), [(LOOP, LOOSE, ("a", "b")), (LOOP, LOOSE, ())], tuple),
    "parting_deeds": (("wiring", "other"), [(LOOP, LOOSE), (ONE, THIRD)], tuple),
}
LOOKS = (LOOP, LOOSE)
NAMES = ("a", "b", "c", "d", "e", "f")
DRAWN = {
    "from_rings": (("parts", "rings"), [(NAMES, tuple(rings_file.rings(HOUSE))), ((), ())], tuple),
    "from_cuts": (("parts", "cuts"), [(NAMES, tuple(rings_file.cuts(HOUSE))), ((), ())], tuple),
    "counterpart": (("wiring",), [(HOUSE,), ((),)], tuple),
    "from_sets": (("parts", "sets"), [(("a", "b", "c"), (("a", "b"),)), ((), ())], tuple),
    "burns": (("wiring", "closed", "part"), [(HOUSE, ("a", "b"), "c"), (HOUSE, (), "c")], bool),
    "told_back": (("parts", "lights"), [(NAMES, lambda closed, part: drawn_file.burns(HOUSE, closed, part))], tuple),
    "parting_look": (("wiring", "other"), [LOOKS, LOOKS[::-1]], tuple),
}
TEXT = ("text",)
TEXTS = {
    "wiring_text": (("wiring",), [(HOUSE,), ((),)], str),
    "signed_text": (("pairs",), [(RING,), ((),)], str),
    "amounts_text": (("wiring", "amounts"), [(HOUSE, STREAM), ((), ())], str),
    "names_text": (("names",), [(("a", "b"),), ((),)], str),
    "unit_text": (("unit",), [(UNIT,), (((), ()),)], str),
    "wiring_in": (TEXT, [("a n m\nb m k",), ("",)], tuple),
    "signed_in": (("wiring", "text"), [(HOUSE, "+a -c"), ((), "")], tuple),
    "amounts_in": (("wiring", "text"), [(LOOP, "a: 1\nb: 0\nc: -1"), ((), "")], tuple),
    "names_in": (("wiring", "text"), [(HOUSE, "a c"), ((), "")], tuple),
    "unit_in": (TEXT, [("posts: k\na k m",), ("posts:",)], tuple),
    "netlist_in": (TEXT, [("join k m\na k m # n",), ("",)], tuple),
}
NESTS = {"Nest": (TEXT, [(PAIRS,), (SHEET,)], Nest)}
DESK = {"answers": (TEXT, [(SHEET + "\n\nsize loop\nback\nset pair p a a",), (SHEET + "\n",)], list)}
# Those that return None for these arguments.
NONE = (("unlike", (ONE, OTHER)), ("unlike_cut", (ONE, OTHER)), ("least_unlike", (ONE, OTHER)),
        ("turns_to", (ONE, THIRD)), ("sum_for", (HOUSE, "current", ("a",), "f")),
        ("unsettled", (HOUSE, "voltage", (), "d")),
        ("equal", (HOUSE, "current", "c", "f")), ("spare", (HOUSE[3:4], "voltage", ("d",))),
        ("blinding", (HOUSE[4:5], "current", ())), ("completed", (HOUSE, "current", ("a", "b"), (3, 4))),
        ("contradiction", (HOUSE, "current", ("a", "b"), (3, 3))),
        ("some_state", (LOOP, (("a", ("source", 1)), ("b", ("open",)), ("c", ("any",))))),
        ("bench", (LOOP, (("a", ("source", 1)), ("b", ("open",)), ("c", ("any",))))),
        ("freedom", (LOOP, (("a", ("source", 1)), ("b", ("open",)), ("c", ("any",))))),
        ("cross_states", (ONE, OTHER)), ("foil", (UNIT, UNIT)), ("parting_setting", (ONE, OTHER, ("a",))),
        ("parting_deeds", (ONE, OTHER)), ("from_rings", (("a",), ((("a", "along"),), (("a", "along"),)))),
        ("from_cuts", (("a", "b"), ((("a", "along"), ("b", "along")), (("a", "along"),)))),
        ("from_sets", (("a", "b"), (("a", "b"), ("a",)))), ("parting_look", (ONE, OTHER)),
        ("counterpart", (tuple([(one + other, one, other) for one in "abc" for other in "uvw"]),)))
ROWS = [(file, name, *row) for file, table in ((wirings_file, WIRINGS), (rings_file, RINGS), (alike_file, ALIKE),
                                               (turns_file, TURNS), (forms_file, FORMS), (settle_file, SETTLE),
                                               (bench_file, BENCH), (posts_file, POSTS), (switches_file, SWITCHES),
                                               (drawn_file, DRAWN), (nests_file, NESTS), (texts_file, TEXTS),
                                               (desk_file, DESK))
        for name, row in table.items()]
PATH = ("block", "path")
# For each class the methods that stand in the class itself, with the names of their parameters.
METHODS = {
    Stream: {"__init__": ("wiring", "amounts"), "amounts": (), "at": ("part",), "split": (), "__add__": None,
             "__sub__": None, "__neg__": (), "__mul__": None, "__len__": (), "__eq__": None},
    Nest: {"__init__": TEXT, "text": (), "blocks": (), "__len__": (), "__contains__": None, "__eq__": None,
           "unfolded": ("block",), "size": ("block",), "ends": PATH, "way": ("block",), "barrier": ("block",),
           "least_ring": PATH, "least_cut": PATH, "row_mates": PATH, "bundle_mates": PATH,
           "alike": ("block", "other"), "alike_pieces": ("block", "other"),
           "changed": ("block", "part", "start", "end"), "swapped": ("block", "other")},
    Board: {"__init__": ("wiring",), "wiring": (), "claim": ("note",), "notes": (), "put": ("part", "start", "end"),
            "drop": ("part",), "bridge": ("part",), "flip": ("part",), "tie": ("node", "other"), "turn": ("names",),
            "hang": ("unit",), "undo": (), "__len__": (), "before": ("times",), "kept": (), "copied": ()},
}
CALLS = [(getattr(file, name), words, arguments, kind) for file, name, words, rows, kind in ROWS for arguments in rows]


def told_lists(told):
    """Whether a list stands in what is returned, but for the one that it may be itself."""
    return isinstance(told, (tuple, list)) and any(holds_list(item) for item in told)


def with_lists(words, arguments):
    """The arguments with lists for tuples, but for any thing, which is taken as it is."""
    return [value if word == "thing" else listed(value) for word, value in zip(words, arguments)]


def each_with_lists(words, arguments):
    """The arguments again and again, one of them each time with lists for some or for all of its tuples."""
    found = []
    for at, (word, value) in enumerate(zip(words, arguments)):
        if word != "thing":
            found.extend([[*arguments[:at], told, *arguments[at + 1:]] for told in half_listed(value)])
    return found


class CallsTest(unittest.TestCase):

    def test_defined_in_its_file_with_its_parameters(self):
        for file, name, words, _, _ in ROWS:
            with self.subTest(name):
                found = getattr(file, name)
                self.assertEqual(found.__module__, file.__name__)
                self.assertEqual(tuple(inspect.signature(found).parameters), words)

    def test_the_class_that_compares_as_all_objects_do(self):
        self.assertEqual((Board.__module__, tuple(inspect.signature(Board).parameters)),
                         ("sameloops.board", ("wiring",)))

    def test_methods_stand_in_the_class_itself(self):
        for owner, methods in METHODS.items():
            for name, words in methods.items():
                with self.subTest(owner.__name__, name=name):
                    self.assertIn(name, vars(owner))
                    if words is not None:
                        self.assertEqual(tuple(inspect.signature(vars(owner)[name]).parameters)[1:], words)

    def test_kinds_of_values(self):
        for call, _, arguments, kind in CALLS:
            with self.subTest(call.__name__, arguments=arguments):
                told = call(*arguments)
                self.assertIs(type(told), kind)
                self.assertFalse(told_lists(told))

    def test_by_names(self):
        for call, words, arguments, _ in CALLS:
            with self.subTest(call.__name__, arguments=arguments):
                self.assertEqual(call(**dict(zip(words, arguments))), call(*arguments))

    def test_lists_for_tuples(self):
        for call, words, arguments, kind in CALLS:
            with self.subTest(call.__name__, arguments=arguments):
                told = call(*with_lists(words, arguments))
                self.assertEqual(told, call(*arguments))
                self.assertFalse(told_lists(told))

    def test_lists_at_any_depth(self):
        for call, words, arguments, kind in CALLS:
            wanted = call(*arguments)
            for given in each_with_lists(words, arguments):
                with self.subTest(call.__name__, given=given):
                    kept = copy.deepcopy(given)
                    told = call(*given)
                    self.assertEqual(told, wanted)
                    self.assertIs(type(told), kind)
                    self.assertFalse(told_lists(told))
                    self.assertEqual(given, kept)

    def test_lists_at_any_depth_in_objects(self):
        for wiring in half_listed(HOUSE):
            self.assertEqual(Stream(wiring, STREAM) + Stream(HOUSE, list(STREAM)), Stream(HOUSE, STREAM) * 2)
            self.assertEqual((Board(wiring).wiring(), type(Board(wiring).wiring()[0])), (HOUSE, tuple))
        notes = (("ring", RING), ("cut", CUT), ("alike", HOUSE), ("stand", (HOUSE[2:3], ("k", "n"))))
        for note in notes:
            for given in half_listed(note):
                board = Board(HOUSE)
                board.claim(given)
                self.assertEqual(board.notes(), [note])
                self.assertFalse(holds_list(board.notes()[0]))

    def test_lists_at_any_depth_in_deeds(self):
        unit = ((("c", "k", "q"), ("f", "n", "q")), ("k", "n"))
        for deed, value in (("turn", ("c", "f")), ("turn", ("a", "b")), ("hang", unit)):
            other = Board(HOUSE)
            getattr(other, deed)(value)
            for given in half_listed(value):
                board = Board(HOUSE)
                getattr(board, deed)(given)
                self.assertEqual(board.wiring(), other.wiring())
                self.assertFalse(holds_list(board.wiring()))

    def test_arguments_stay_as_they_are(self):
        for call, words, arguments, _ in CALLS:
            with self.subTest(call.__name__, arguments=arguments):
                given = with_lists(words, arguments)
                kept = copy.deepcopy(given)
                call(*given)
                self.assertEqual(given, kept)

    def test_lists_are_new_and_calls_repeat(self):
        for call, _, arguments, kind in CALLS:
            with self.subTest(call.__name__, arguments=arguments):
                told, kept = call(*arguments), copy.deepcopy(call(*arguments))
                if kind is list:
                    told.append(None)
                self.assertEqual(call(*arguments), kept)

    def test_things_that_are_lists_stay_lists(self):
        for call, thing in ((rings_file.is_ring, RING), (rings_file.is_cut, CUT), (rings_file.is_stream, STREAM),
                            (rings_file.is_drops, DROPS)):
            self.assertEqual((call(listed(HOUSE), thing), call(listed(HOUSE), listed(thing))), (True, False))

    def test_sets_and_pairs_that_are_lists_stay_lists(self):
        lists = listed(ONE), listed(THIRD)
        self.assertEqual((alike_file.is_unlike(*lists, (0, PAIR)), alike_file.is_unlike(*lists, (0, list(PAIR)))),
                         (True, False))
        self.assertEqual((turns_file.is_piece(listed(SQUARE), ("a", "b")),
                          turns_file.is_piece(listed(SQUARE), ["a", "b"])),
                         (True, False))
        self.assertEqual((settle_file.is_sum(listed(HOUSE), "current", "e", ()),
                          settle_file.is_sum(listed(HOUSE), "current", "e", [])), (True, False))

    def test_rules_and_units_that_are_lists_stay_lists(self):
        self.assertEqual((bench_file.is_rule_row(listed(ONE), RULES), bench_file.is_rule_row(ONE, listed(RULES))),
                         (True, False))
        self.assertEqual((bench_file.is_state_row(listed(LOOP), STATE), bench_file.is_state_row(LOOP, list(STATE))),
                         (True, False))

    def test_none(self):
        for name, arguments in NONE:
            call, words = [(getattr(file, name), words) for file, found, words, _, _ in ROWS if found == name][0]
            with self.subTest(name):
                self.assertIsNone(call(*arguments))
                self.assertIsNone(call(*with_lists(words, arguments)))
                self.assertIsNone(call(**dict(zip(words, arguments))))

    def test_stream_methods_by_name(self):
        self.assertEqual(Stream(wiring=HOUSE, amounts=STREAM).at(part="f"), -2)


if __name__ == "__main__":
    unittest.main()
