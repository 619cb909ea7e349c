"""The form of the package's files: the rules of LANGUAGE.md that a short test can see."""

import ast
import inspect
import re
import unittest
from pathlib import Path

from onebetween.base import numbers, words
from onebetween.webs.webs import Web

ROOT = Path(__file__).resolve().parent.parent
PACKAGE = ROOT / "onebetween"
FILES = sorted(PACKAGE.rglob("*.py"))

# Words that occur nowhere but in comments and docstrings (L17).
BARRED = re.compile(r"\b(type|typing|enum|Enum|Flag|Generic|Protocol|ABC|namedtuple|register|mro|elements|open|input|law)\b")

INTERFACE = {
    words.is_integer: "(value)",
    words.is_count: "(value)",
    words.is_letter: "(value)",
    numbers.power: "(base, exponent)",
    numbers.exponent_of: "(base, number)",
    numbers.figures_of: "(base, length, number)",
    numbers.number_of: "(base, figures)",
    numbers.divisors: "(number)",
    numbers.moebius: "(number)",
    Web: "(rows)",
    Web.from_lines: "(lines)",
    Web.turned: "(self)",
    Web.renamed: "(self, names)",
    Web.with_tie: "(self, one, other)",
    Web.without_tie: "(self, one, other)",
    Web.with_row: "(self, place, row)",
    Web.part: "(self, places)",
}


def trees():
    return [(path, ast.parse(path.read_text())) for path in FILES]


def name_of(path):
    return ".".join(path.relative_to(ROOT).with_suffix("").parts)


def without_docstrings(tree):
    """Return the text of the code without comments and docstrings."""
    for node in ast.walk(tree):
        if isinstance(node, (ast.Module, ast.ClassDef, ast.FunctionDef)) and ast.get_docstring(node) is not None:
            node.body[0].value.value = ""
    return ast.unparse(tree)


class Interface(unittest.TestCase):
    def test_parameters(self):
        for call, parameters in INTERFACE.items():
            self.assertEqual(str(inspect.signature(call)), parameters, call)

    def test_modules(self):
        for call in INTERFACE:
            module = call.__module__
            self.assertIn(module, ("onebetween.base.words", "onebetween.base.numbers", "onebetween.webs.webs"))


class Files(unittest.TestCase):
    def test_folders(self):
        for path in PACKAGE.rglob("*"):
            if "__pycache__" in path.parts:
                continue
            if path.is_dir():
                self.assertTrue((path / "__init__.py").is_file(), path)
            else:
                self.assertRegex(path.name, r"\A[a-z0-9_]+\.py\Z")

    def test_sizes(self):
        for path in FILES:
            text = path.read_text()
            self.assertRegex(text, r"\A[\n -~]*\Z", path)
            lines = text.splitlines()
            self.assertLessEqual(len(lines), 399, path)
            self.assertLessEqual(max([0] + [len(line) for line in lines]), 120, path)

    def test_functions_are_small(self):
        for path, tree in trees():
            for node in ast.walk(tree):
                if isinstance(node, ast.FunctionDef):
                    self.assertLessEqual(node.end_lineno - node.lineno + 1, 40, (path, node.name))

    def test_imports(self):
        defined = {}
        for path, tree in trees():
            targets = [node.targets[0].id for node in tree.body if isinstance(node, ast.Assign)]
            defined[name_of(path)] = targets + [node.name for node in tree.body if hasattr(node, "name")]
        for path, tree in trees():
            for node in ast.walk(tree):
                self.assertNotIsInstance(node, ast.Import, path)
                if isinstance(node, ast.ImportFrom) and node.module not in ("heapq", "math", "itertools", "collections"):
                    self.assertEqual(node.level, 0)
                    for alias in node.names:
                        self.assertIn(alias.name, defined[node.module], path)

    def test_barred_words(self):
        for path, tree in trees():
            found = BARRED.findall(without_docstrings(tree))
            self.assertEqual(found, [], path)

    def test_nothing_barred_is_used(self):
        barred = (ast.GeneratorExp, ast.AsyncFunctionDef, ast.Global, ast.Div)
        for path, tree in trees():
            for node in ast.walk(tree):
                self.assertNotIsInstance(node, barred, path)
                if isinstance(node, ast.Constant):
                    self.assertNotIsInstance(node.value, (float, complex), path)
                if isinstance(node, ast.BinOp) and isinstance(node.op, ast.Pow):
                    self.assertIsInstance(node.right, ast.Constant, path)


if __name__ == "__main__":
    unittest.main()
