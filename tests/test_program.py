"""[1] and [18]: what holds over the whole program: its files, their order, and what no file may use."""

import ast
import re
import unittest
from pathlib import Path

from tests.test_calls import METHODS, ROWS

TOP = Path(__file__).resolve().parent.parent
ORDER = ("errors", "wirings", "rings", "alike", "turns", "forms", "settle", "bench", "posts", "switches", "drawn",
         "nests",
         "board", "texts", "desk")
# The names that each file defines, as the points of the document list them.
NAMES = {
    "wirings": "is_wiring nodes parts groups blocks rank forest opened bridged reversed_parts joined_nodes "
               "same_drawing",
    "rings": "rings cuts is_ring is_cut ring_over cut_over ring_table ring_through cut_through Stream is_stream "
             "is_drops heights",
    "alike": "alike unlike is_unlike least_unlike unlike_cut is_unlike_cut test_of grouped alike_without "
             "alike_if_bridged",
    "turns": "classes_at doors is_piece turned turned_all drawn_alike turns_to are_turns",
    "forms": "rank_of strong cells_of chain_mates bundle_mates drawings how_many form drawing number_of",
    "settle": "settled settles_all always_zero sum_for is_sum unsettled equal mates least_meters meter_sets "
              "many_meter_sets cheapest_meters spare blinding possible completed contradiction suspects "
              "shows_one_wrong names_one_wrong",
    "bench": "is_rule_row is_state_row is_state some_state bench freedom same_states seen power cross cross_states "
             "possible_states",
    "posts": "is_unit unit_of put_into in_place turned_about post_table stand_for foil joined_units",
    "switches": "set_to lit lit_by lights idle parting_setting parting_deeds",
    "drawn": "from_rings from_cuts counterpart from_sets burns told_back parting_look",
    "nests": "Nest",
    "board": "Board",
    "texts": "wiring_text signed_text amounts_text names_text unit_text wiring_in signed_in amounts_in names_in "
             "unit_in netlist_in",
    "desk": "answers",
}


def tree(name):
    return ast.parse((TOP / "sameloops" / (name + ".py")).read_text(encoding="utf-8"))


def imported(name):
    """The files of the package from which a file imports."""
    return [node.module.split(".")[1] for node in tree(name).body
            if isinstance(node, ast.ImportFrom) and node.module.startswith("sameloops.")]


def needed(name):
    """All files that a file needs, through others, too."""
    found, waiting = [], imported(name)
    while waiting:
        here = waiting.pop()
        if here not in found:
            found.append(here)
            waiting.extend(imported(here))
    return found


class ProgramTest(unittest.TestCase):

    def test_each_name_is_defined_in_its_file(self):
        for name, words in NAMES.items():
            defined = [node.name for node in tree(name).body if isinstance(node, (ast.FunctionDef, ast.ClassDef))]
            self.assertEqual([word for word in words.split() if word not in defined], [])

    def test_each_name_is_called_in_the_tests(self):
        found = {(file.__name__.split(".")[1], name) for file, name, _, _, _ in ROWS} | {
            (owner.__module__.split(".")[1], owner.__name__) for owner in METHODS}
        self.assertEqual(found, {(name, word) for name, words in NAMES.items() for word in words.split()})

    def test_each_file_needs_only_those_ahead_of_it(self):
        for at, name in enumerate(ORDER):
            self.assertEqual([other for other in needed(name) if other in ORDER[at:]], [], name)

    def test_nothing_from_outside(self):
        for path in sorted((TOP / "sameloops").glob("*.py")):
            for node in ast.walk(ast.parse(path.read_text(encoding="utf-8"))):
                if isinstance(node, ast.ImportFrom):
                    self.assertRegex(node.module, r"^(sameloops\.[a-z]+|math|itertools)$")
                self.assertNotIsInstance(node, (ast.Import, ast.Global, ast.AsyncFunctionDef))
                if isinstance(node, ast.Name):
                    self.assertNotIn(node.id, ("open", "input", "print", "eval", "exec", "id", "hash"))

    def test_no_file_keeps_a_state(self):
        # What stands at module level is defined once and is plain.
        for path in sorted((TOP / "sameloops").glob("*.py")):
            for node in ast.parse(path.read_text(encoding="utf-8")).body:
                self.assertIsInstance(node, (ast.Expr, ast.ImportFrom, ast.FunctionDef, ast.ClassDef, ast.Assign))
                if isinstance(node, ast.Assign):
                    ast.literal_eval(node.value)

    def test_the_readme_names_all_files(self):
        told = (TOP / "README.md").read_text(encoding="utf-8")
        files = sorted([path.stem for path in (TOP / "sameloops").glob("*.py") if path.stem != "__init__"])
        self.assertEqual(sorted(set(re.findall(r"`sameloops\.([a-z]+)`", told))), files)
        for name, words in NAMES.items():
            self.assertEqual([word for word in words.split() if "`" + word + "`" not in told], [])


if __name__ == "__main__":
    unittest.main()
