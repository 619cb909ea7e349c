"""The form of the package's files: the rules of LANGUAGE.md that a short test can see."""

import ast
import builtins
import importlib
import inspect
import re
import unittest
from pathlib import Path

from onebetween.webs.webs import Web

ROOT = Path(__file__).resolve().parent.parent
PACKAGE = ROOT / "onebetween"
FILES = sorted(PACKAGE.rglob("*.py"))

# Words that occur nowhere but in comments and docstrings (L17).
BARRED = re.compile(r"\b(type|typing|enum|Enum|Flag|Generic|Protocol|ABC|namedtuple|register|mro|elements|open|input|law)\b")

# The functions and constants of the interface, by the module that defines them.
INTERFACE = {
    "onebetween.base.words": ("is_integer(value)", "is_count(value)", "is_letter(value)"),
    "onebetween.base.numbers": (
        "power(base, exponent)", "exponent_of(base, number)", "figures_of(base, length, number)", "number_of(base, figures)",
        "divisors(number)", "moebius(number)",
    ),
    "onebetween.webs.making": (
        "word_web(degree, depth)", "all_ties(number)", "word_of(degree, depth, place)", "place_of(degree, depth, word)",
        "line_web(web, *, times=1)", "line_ties(web)", "product(one, other)", "pair_of(one, other, place)",
        "place_in(one, other, pair)", "both(one, other)", "strides(web, steps)", "shifted(web, names)", "is_order(web, value)",
    ),
    "onebetween.webs.walks": (
        "is_walk(web, value)", "count_walks(web, one, other, steps)", "walk_counts(web, one, steps)", "layers(web, one, steps)",
        "each_walk(web, one, other, steps)", "nth_walk(web, one, other, steps, index)", "walk_index(web, value)",
        "distance(web, one, other)", "farthest(web)", "components(web)", "period(web, place)",
    ),
    "onebetween.lone.counts": (
        "count_closed(web, depth, steps)", "count_rings(web, depth, length)", "census(web, depth, length)",
        "is_ring(web, value)", "each_ring(web, length)", "ring_of(web, value)", "rings_at(web, depth, place, length)",
    ),
    "onebetween.lone.tours": (
        "is_tree(web, root, value)", "count_trees(web, root)", "any_tree(web, root)", "each_tree(web, root)",
        "is_tour(web, value)", "count_tours(web)", "any_tour(web)", "each_tour(web)", "tour_parts(web, tour)",
        "tour_of(web, tree, orders)", "lone_trees(web)", "lone_tours(web)",
    ),
    "onebetween.lone.closures": (
        "is_closed(web, depth, value)", "closure(web, depth, places)", "part_web(web, depth, places)",
        "is_generating(web, depth, value)", "generators(web, depth)", "fewest_generators(web, depth)",
        "closed_sets(web, depth)", "is_rise(web, depth, value)", "longest_rise(web, depth)",
    ),
    "onebetween.lone.papers": (
        "is_lone(web, depth)", "depth_of(web)", "flaws(web, depth)", "two_walks(web, depth)", "missing_pair(web, depth)",
        "lone_paper(web, depth)", "is_lone_paper(web, depth, value)",
    ),
    "onebetween.lone.middles": (
        "the_walk(web, depth, one, other)", "between(web, one, other)", "middle_table(web)", "is_middle_table(value)",
        "web_of_table(table)", "address(web, depth, start, place)", "place_at(web, depth, start, labels)",
        "long_walk_at(web, depth, one, other, steps, index)", "long_walk_index(web, depth, walk)",
        "steps_to(web, depth, one, other)",
    ),
    "onebetween.lone.words": (
        "is_line(web, depth)", "clashing_pair(web, depth)", "root_of(web, depth)", "is_root(web, depth, value)",
        "word_names(web, depth)", "is_word_names(web, depth, value)", "word_paper(web, depth)",
        "is_word_paper(web, depth, value)", "plain_root(web, depth)",
    ),
}

CONSTANTS = {
    "onebetween.base.words": {"MAX_FIGURES": 200},
    "onebetween.webs.webs": {"MAX_PLACES": 256},
    "onebetween.webs.making": {"MAX_PLACES": 256},
    "onebetween.lone.papers": {"MAX_DEPTH": 8, "MAX_PAPER": 64},
    "onebetween.lone.middles": {"MAX_STEPS": 100},
    "onebetween.webs.walks": {"MAX_STEPS": 200},
    "onebetween.lone.counts": {"MAX_STEPS": 200, "MAX_LENGTH": 60},
    "onebetween.lone.tours": {"MAX_PLACES": 64},
    "onebetween.lone.closures": {"MAX_FORCE": 16, "MAX_SETS": 1000},
}

WEB = (
    "from_lines(lines)", "turned(self)", "renamed(self, names)", "with_tie(self, one, other)", "without_tie(self, one, other)",
    "with_row(self, place, row)", "part(self, places)",
)


def trees():
    return [(path, ast.parse(path.read_text())) for path in FILES]


def name_of(path):
    return ".".join(path.relative_to(ROOT).with_suffix("").parts)


def functions(tree):
    return [node for node in ast.walk(tree) if isinstance(node, ast.FunctionDef)]


def without_docstrings(tree):
    """Return the text of the code without comments and docstrings."""
    for node in ast.walk(tree):
        if isinstance(node, (ast.Module, ast.ClassDef, ast.FunctionDef)) and ast.get_docstring(node) is not None:
            node.body[0].value.value = ""
    return ast.unparse(tree)


class Interface(unittest.TestCase):
    def test_functions(self):
        for module, texts in INTERFACE.items():
            for text in texts:
                call = getattr(importlib.import_module(module), text.split("(")[0])
                self.assertEqual(call.__name__ + str(inspect.signature(call)), text)
                self.assertEqual(call.__module__, module)

    def test_constants(self):
        for module, constants in CONSTANTS.items():
            for name, value in constants.items():
                self.assertEqual(getattr(importlib.import_module(module), name), value)

    def test_web(self):
        self.assertEqual(str(inspect.signature(Web)), "(rows)")
        self.assertEqual(Web.__module__, "onebetween.webs.webs")
        for text in WEB:
            name = text.split("(")[0]
            self.assertIn(name, vars(Web))
            self.assertEqual(name + str(inspect.signature(getattr(Web, name))), text)


class Files(unittest.TestCase):
    def test_folders(self):
        for path in PACKAGE.rglob("*"):
            if "__pycache__" in path.parts:
                continue
            if path.is_dir():
                self.assertTrue((path / "__init__.py").is_file(), path)
            else:
                self.assertRegex(path.name, r"\A[a-z0-9_]+\.py\Z")

    def test_sizes(self):
        for path in FILES:
            text = path.read_text()
            self.assertRegex(text, r"\A[\n -~]*\Z", path)
            lines = text.splitlines()
            self.assertLessEqual(len(lines), 399, path)
            self.assertLessEqual(max([0] + [len(line) for line in lines]), 120, path)

    def test_functions_are_small(self):
        for path, tree in trees():
            for node in ast.walk(tree):
                if isinstance(node, ast.FunctionDef):
                    self.assertLessEqual(node.end_lineno - node.lineno + 1, 40, (path, node.name))

    def test_imports(self):
        defined = {}
        for path, tree in trees():
            targets = [node.targets[0].id for node in tree.body if isinstance(node, ast.Assign)]
            defined[name_of(path)] = targets + [node.name for node in tree.body if hasattr(node, "name")]
        for path, tree in trees():
            for node in ast.walk(tree):
                self.assertNotIsInstance(node, ast.Import, path)
                if isinstance(node, ast.ImportFrom) and node.module not in ("heapq", "math", "itertools", "collections"):
                    self.assertEqual(node.level, 0)
                    for alias in node.names:
                        self.assertIn(alias.name, defined[node.module], path)

    def test_names_have_one_meaning(self):
        for path, tree in trees():
            # The examples that doctest runs leave their last value in builtins, as "_".
            taken = set(dir(builtins)) - {"_"}
            for node in tree.body:
                if isinstance(node, ast.ImportFrom):
                    taken.update(alias.name for alias in node.names)
                elif hasattr(node, "name"):
                    taken.add(node.name)
            for call in functions(tree):
                names = {node.arg for node in ast.walk(call) if isinstance(node, ast.arg)}
                names.update(node.id for node in ast.walk(call) if isinstance(node, ast.Name) and isinstance(node.ctx, ast.Store))
                self.assertEqual(names & taken, set(), (path, call.name))

    def test_imports_are_used(self):
        for path, tree in trees():
            used = {node.id for node in ast.walk(tree) if isinstance(node, ast.Name)}
            for node in tree.body:
                if isinstance(node, ast.ImportFrom):
                    self.assertEqual({alias.name for alias in node.names} - used, set(), path)

    def test_generators(self):
        calls = [call for _, tree in trees() for call in functions(tree)]
        generators = {call.name for call in calls if any(isinstance(node, (ast.Yield, ast.YieldFrom)) for node in ast.walk(call))}
        self.assertLessEqual({"each_walk", "each_ring", "each_tree", "each_tour"}, generators)
        for name in generators:
            self.assertEqual(len([call for call in calls if call.name == name]), 1, name)
        for path, tree in trees():
            iterated = [node.iter for node in ast.walk(tree) if isinstance(node, ast.For)]
            iterated.extend(node.value for node in ast.walk(tree) if isinstance(node, ast.YieldFrom))
            for node in ast.walk(tree):
                if isinstance(node, ast.Name) and node.id in generators:
                    self.assertIn(node, [call.func for call in iterated if isinstance(call, ast.Call)], path)

    def test_barred_words(self):
        for path, tree in trees():
            found = BARRED.findall(without_docstrings(tree))
            self.assertEqual(found, [], path)

    def test_nothing_barred_is_used(self):
        barred = (ast.GeneratorExp, ast.AsyncFunctionDef, ast.Global, ast.Div)
        for path, tree in trees():
            for node in ast.walk(tree):
                self.assertNotIsInstance(node, barred, path)
                if isinstance(node, ast.Constant):
                    self.assertNotIsInstance(node.value, (float, complex), path)
                if isinstance(node, ast.BinOp) and isinstance(node.op, ast.Pow):
                    self.assertIsInstance(node.right, ast.Constant, path)


if __name__ == "__main__":
    unittest.main()
