"""The interface as the document lists it, and [1]: no clock, no chance, no files."""

import ast
import inspect
import pathlib
import unittest

import pairlattice
from pairlattice import asking, chosen, errors, lattice, mending, pairings, texts, turnings, wishes

FOLDER = pathlib.Path(pairlattice.__file__).parent
ALLOWED = ("pairlattice", "heapq", "math", "itertools", "collections")
BARRED = ("open", "input", "print", "eval", "exec", "compile", "hash", "id")

FUNCTIONS = {
    wishes: {"order": ["book", "side", "number"]},
    pairings: {
        "breakers": ["book", "pairing"],
        "is_good": ["book", "pairing"],
        "better": ["book", "side", "one", "other"],
    },
    asking: {"asks": ["book", "side"], "best_for": ["book", "side"]},
    turnings: {"turnings": ["book", "pairing"], "turned": ["book", "pairing", "turning"]},
    chosen: {
        "sorts": ["book"],
        "with_pair": ["book", "i", "j"],
        "fairest": ["book"],
        "gentlest": ["book"],
    },
    mending: {"mended": ["book", "pairing", "side", "number", "row"]},
    texts: {"written": ["book"], "read": ["text"]},
}
CLASSES = {
    errors: ["PairError", "BadBook", "BadPairing", "NotGood", "NoTurning", "NotClosed", "BadText"],
    lattice: ["Lattice"],
}
METHODS = {
    lattice.Lattice: {
        "__init__": ["self", "book"],
        "turnings": ["self"],
        "ahead": ["self", "number"],
        "pairings": ["self"],
        "part": ["self", "pairing"],
        "pairing": ["self", "part"],
    },
}


def trees():
    """Each file of the package, and what it says."""
    return [(path, ast.parse(path.read_text("utf-8"))) for path in sorted(FOLDER.rglob("*.py"))]


class Interface(unittest.TestCase):
    def test_functions(self):
        for module, listed in FUNCTIONS.items():
            for name, parameters in listed.items():
                with self.subTest(name):
                    found = getattr(module, name)
                    self.assertEqual(found.__module__, module.__name__)
                    self.assertEqual(list(inspect.signature(found).parameters), parameters)

    def test_classes(self):
        for module, listed in CLASSES.items():
            for name in listed:
                with self.subTest(name):
                    found = getattr(module, name)
                    self.assertIsInstance(found, type)
                    self.assertEqual(found.__module__, module.__name__)

    def test_methods(self):
        for owner, listed in METHODS.items():
            for name, parameters in listed.items():
                with self.subTest(name, owner=owner.__name__):
                    # In the class itself, not in a base class.
                    self.assertIn(name, vars(owner))
                    self.assertEqual(list(inspect.signature(vars(owner)[name]).parameters), parameters)


class Readme(unittest.TestCase):
    def test_what_it_shows_is_so(self):
        text = (FOLDER.parent / "README.md").read_text("utf-8")
        code = text.split("```python\n")[1].split("```")[0]
        known = {}
        head, rows = code.split("\n)\n")
        exec(head + "\n)\n", known)
        shown = [row.split("#") for row in rows.split("\n") if "#" in row]
        self.assertEqual(len(shown), 22)
        for asked, told in shown:
            with self.subTest(asked):
                self.assertEqual(eval(asked, known), eval(told))


class Form(unittest.TestCase):
    def test_nothing_from_outside(self):
        for path, tree in trees():
            for node in ast.walk(tree):
                with self.subTest(path.name):
                    self.assertNotIsInstance(node, ast.Import)
                    if isinstance(node, ast.ImportFrom):
                        self.assertEqual(node.level, 0)
                        self.assertIn(node.module.split(".")[0], ALLOWED)
                    if isinstance(node, ast.Name):
                        self.assertNotIn(node.id, BARRED)

    def test_sizes_and_characters(self):
        for path, tree in trees():
            lines = path.read_text("utf-8").split("\n")
            with self.subTest(path.name):
                self.assertLess(len(lines), 400)
                for line in lines:
                    self.assertLessEqual(len(line), 120)
                    self.assertTrue(all(" " <= sign <= "~" for sign in line), line)
                for node in ast.walk(tree):
                    if isinstance(node, (ast.FunctionDef, ast.Lambda)):
                        self.assertLessEqual(node.end_lineno - node.lineno + 1, 40)

    def test_only_code_in_the_folder(self):
        for path in FOLDER.rglob("*"):
            if "__pycache__" not in path.parts and path.is_file():
                with self.subTest(path.name):
                    self.assertEqual(path.suffix, ".py")


if __name__ == "__main__":
    unittest.main()
