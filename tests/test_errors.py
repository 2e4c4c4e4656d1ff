"""[18] and [2]: the error classes."""

import unittest

from sameloops import errors

WORDS = {
    LookupError: {"NoPart": ("part",), "NoNode": ("node",), "NoBlock": ("block",), "NoPlace": ("place",),
                  "NoSwitch": ("part",)},
    ValueError: {"NoFit": (), "Leak": ("node",), "OtherParts": ("part",), "NoRing": (), "NoPiece": (),
                 "NoDrawing": ("number",), "Twice": ("part",), "Wrong": ("note",), "BadLine": ("number",)},
    RuntimeError: {"NothingDone": ()},
}
ROWS = [(base, name, words) for base, table in WORDS.items() for name, words in table.items()]


class ErrorsTest(unittest.TestCase):

    def test_each_is_a_direct_subclass_of_its_built_in_class_alone(self):
        for base, name, _ in ROWS:
            with self.subTest(name):
                self.assertEqual(getattr(errors, name).__bases__, (base,))
                self.assertEqual(getattr(errors, name).__module__, "sameloops.errors")

    def test_there_are_no_others(self):
        found = [name for name, thing in vars(errors).items() if isinstance(thing, type)]
        self.assertEqual(sorted(found), sorted([name for _, name, _ in ROWS]))

    def test_values_are_kept_in_attributes_of_their_names(self):
        for _, name, words in ROWS:
            for value in ("a", 7, ("ring", (("a", "along"),))):
                with self.subTest(name):
                    told = {word: value for word in words}
                    self.assertEqual(vars(getattr(errors, name)(*told.values())), told)
                    self.assertEqual(vars(getattr(errors, name)(**told)), told)

    def test_each_takes_just_its_values(self):
        for _, name, words in ROWS:
            with self.subTest(name):
                with self.assertRaises(TypeError):
                    getattr(errors, name)(*words, "more")
                if words:
                    with self.assertRaises(TypeError):
                        getattr(errors, name)()

    def test_each_can_be_raised_and_caught_by_its_built_in_class(self):
        for base, name, words in ROWS:
            with self.subTest(name), self.assertRaises(base):
                raise getattr(errors, name)(*words)


if __name__ == "__main__":
    unittest.main()
