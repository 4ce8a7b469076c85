"""That the interface stands where DOC.md lists it."""

import ast
import inspect
import unittest
from pathlib import Path

from proofshare import errors, folding, papers, sharing, terms, texts, unfolding, walks

FOLDER = Path(__file__).resolve().parent.parent / "proofshare"

FUNCTIONS = {
    terms: {"size": ["term"], "letters": ["term"], "filled": ["term", "filling"], "part_at": ["term", "place"]},
    papers: {"shown": ["paper"]},
    walks: {"walked": ["book", "term", "moves"]},
    folding: {"folded": ["book", "term", "moves"]},
    sharing: {"shortened": ["paper"], "set_in_order": ["paper"], "told_apart": ["one", "other"], "uses": ["paper"]},
    texts: {"term_text": ["term"], "written": ["paper"], "read": ["text"]},
}

METHODS = {"length": ["I"], "move": ["I", "k"], "term": ["I", "k"], "walk": ["I", "most"]}


class Functions(unittest.TestCase):
    def test_each_is_defined_in_its_file_with_its_arguments(self):
        for module, table in FUNCTIONS.items():
            for name, arguments in table.items():
                with self.subTest(name=name):
                    told = getattr(module, name)
                    self.assertEqual(told.__module__, module.__name__)
                    self.assertEqual(list(inspect.signature(told).parameters), arguments)


class Classes(unittest.TestCase):
    def test_unfolding_is_defined_in_its_file_with_its_methods(self):
        told = unfolding.Unfolding
        self.assertEqual(told.__module__, "proofshare.unfolding")
        self.assertEqual(list(inspect.signature(told).parameters), ["paper"])
        for name, arguments in METHODS.items():
            with self.subTest(name=name):
                self.assertIn(name, vars(told))
                self.assertEqual(list(inspect.signature(vars(told)[name]).parameters)[1:], arguments)


class Errors(unittest.TestCase):
    def test_their_bases(self):
        self.assertEqual(errors.ProofError.__bases__, (ValueError,))
        for name in ("BadTerm", "NoStep", "NoMove", "TooLong", "BadText"):
            with self.subTest(name=name):
                told = getattr(errors, name)
                self.assertEqual(told.__bases__, (errors.ProofError,))
                self.assertEqual(told.__module__, "proofshare.errors")

    def test_their_values(self):
        told = errors.NoStep(3, "meet")
        self.assertEqual((told.number, told.why), (3, "meet"))
        self.assertEqual(errors.NoMove(4).number, 4)

    def test_each_tells_something(self):
        for told in (errors.NoStep(3, "meet"), errors.NoMove(4), errors.BadTerm("no"), errors.TooLong("no"), errors.BadText("no")):
            self.assertTrue(str(told))


class Files(unittest.TestCase):
    def test_only_the_package_is_imported(self):
        for path in sorted(FOLDER.rglob("*.py")):
            for node in ast.walk(ast.parse(path.read_text("utf-8"))):
                with self.subTest(path=path.name):
                    self.assertNotIsInstance(node, ast.Import)
                    if isinstance(node, ast.ImportFrom):
                        self.assertTrue(node.module.startswith("proofshare."))

    def test_no_clock_chance_or_files(self):
        barred = {"open", "input", "print", "exec", "eval", "compile", "id", "hash", "globals", "vars"}
        for path in sorted(FOLDER.rglob("*.py")):
            for node in ast.walk(ast.parse(path.read_text("utf-8"))):
                if isinstance(node, ast.Name):
                    with self.subTest(path=path.name, name=node.id):
                        self.assertNotIn(node.id, barred)
                        self.assertFalse(node.id.startswith("__"))

    def test_sizes_and_characters(self):
        for path in sorted(FOLDER.rglob("*.py")):
            text = path.read_text("utf-8")
            with self.subTest(path=path.name):
                self.assertLess(len(text.splitlines()), 400)
                self.assertLessEqual(max(map(len, text.splitlines())), 120)
                self.assertTrue(all(" " <= char <= "~" or char == "\n" for char in text))
                for node in ast.walk(ast.parse(text)):
                    if isinstance(node, ast.FunctionDef):
                        self.assertLessEqual(node.end_lineno - node.lineno + 1, 40)


if __name__ == "__main__":
    unittest.main()
