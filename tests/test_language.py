"""The form of the package's files: the rules of LANGUAGE.md that a short test can see."""

import ast
import builtins
import importlib
import inspect
import re
import unittest
from pathlib import Path

from onebetween.text.shell import Shell
from onebetween.use.keeper import Keeper
from onebetween.webs.webs import Web

ROOT = Path(__file__).resolve().parent.parent
PACKAGE = ROOT / "onebetween"
FILES = sorted(PACKAGE.rglob("*.py"))

# Words that occur nowhere but in comments and docstrings (L17).
BARRED = re.compile(r"\b(type|typing|enum|Enum|Flag|Generic|Protocol|ABC|namedtuple|register|mro|elements|open|input|law)\b")

# The functions and constants of the interface, by the module that defines them.
INTERFACE = {
    "onebetween.base.words": ("is_integer(value)", "is_count(value)", "is_letter(value)"),
    "onebetween.base.numbers": (
        "power(base, exponent)", "exponent_of(base, number)", "figures_of(base, length, number)", "number_of(base, figures)",
        "divisors(number)", "moebius(number)",
    ),
    "onebetween.webs.making": (
        "word_web(degree, depth)", "all_ties(number)", "word_of(degree, depth, place)", "place_of(degree, depth, word)",
        "line_web(web, *, times=1)", "line_ties(web)", "product(one, other)", "pair_of(one, other, place)",
        "place_in(one, other, pair)", "both(one, other)", "strides(web, steps)", "shifted(web, names)", "is_order(web, value)",
    ),
    "onebetween.webs.walks": (
        "is_walk(web, value)", "count_walks(web, one, other, steps)", "walk_counts(web, one, steps)", "layers(web, one, steps)",
        "each_walk(web, one, other, steps)", "nth_walk(web, one, other, steps, index)", "walk_index(web, value)",
        "distance(web, one, other)", "farthest(web)", "components(web)", "period(web, place)",
    ),
    "onebetween.lone.counts": (
        "count_closed(web, depth, steps)", "count_rings(web, depth, length)", "census(web, depth, length)",
        "is_ring(web, value)", "each_ring(web, length)", "ring_of(web, value)", "rings_at(web, depth, place, length)",
    ),
    "onebetween.lone.tours": (
        "is_tree(web, root, value)", "count_trees(web, root)", "any_tree(web, root)", "each_tree(web, root)",
        "is_tour(web, value)", "count_tours(web)", "any_tour(web)", "each_tour(web)", "tour_parts(web, tour)",
        "tour_of(web, tree, orders)", "lone_trees(web)", "lone_tours(web)",
    ),
    "onebetween.lone.closures": (
        "is_closed(web, depth, value)", "closure(web, depth, places)", "part_web(web, depth, places)",
        "is_generating(web, depth, value)", "generators(web, depth)", "fewest_generators(web, depth)",
        "closed_sets(web, depth)", "is_rise(web, depth, value)", "longest_rise(web, depth)",
    ),
    "onebetween.lone.papers": (
        "is_lone(web, depth)", "depth_of(web)", "flaws(web, depth)", "two_walks(web, depth)", "missing_pair(web, depth)",
        "lone_paper(web, depth)", "is_lone_paper(web, depth, value)",
    ),
    "onebetween.lone.middles": (
        "the_walk(web, depth, one, other)", "between(web, one, other)", "middle_table(web)", "is_middle_table(value)",
        "web_of_table(table)", "address(web, depth, start, place)", "place_at(web, depth, start, labels)",
        "long_walk_at(web, depth, one, other, steps, index)", "long_walk_index(web, depth, walk)",
        "steps_to(web, depth, one, other)",
    ),
    "onebetween.lone.words": (
        "is_line(web, depth)", "clashing_pair(web, depth)", "root_of(web, depth)", "is_root(web, depth, value)",
        "word_names(web, depth)", "is_word_names(web, depth, value)", "word_paper(web, depth)",
        "is_word_paper(web, depth, value)", "plain_root(web, depth)",
    ),
    "onebetween.lone.switches": (
        "twins_of(web, *, backward=False)", "classes_at(web, u, v, *, backward=False)", "free_classes(web, u, v, *, backward=False)",
        "switched(web, u, v, places, *, backward=False)", "switched_all(web, moves, *, backward=False)",
        "each_switch(web, *, backward=False)", "is_switch(web, other, *, backward=False)",
    ),
    "onebetween.lone.maps": (
        "is_map(one, other, value)", "spread(one, other, seeds)", "each_map(one, other)", "count_maps(one, other)",
        "image_of(one, other, value)", "behind(first, second)", "are_alike(one, other)", "any_likeness(one, other)",
        "is_likeness(one, other, value)", "own_maps(web)", "folds(one, other)",
    ),
    "onebetween.lone.refills": (
        "refills(web, depth, places)", "count_refills(web, depth, places)", "sure_ties(web, depth, places)",
        "open_ties(web, depth, places)", "is_refill(web, depth, places, value)",
    ),
    "onebetween.terms.terms": (
        "is_term(value)", "size_of(term)", "letters_of(term)", "levels_of(term)", "part_at(term, index)",
        "replaced(term, index, other)", "sides_of(term)", "product_of(one, other)", "substituted(term, terms)", "mirrored(term)",
        "matched(pattern, term)", "count_terms(letters, size)", "each_term(letters, size)", "value_of(web, term, values)",
        "text_of(term)", "read_text(text)",
    ),
    "onebetween.terms.forms": (
        "steps_down(term)", "is_form(value)", "form_of(term)", "form_chain(term)", "are_equal(one, other)",
        "equality_paper(one, other)", "is_equality_paper(one, other, value)", "word_ends(term)", "are_equal_in_words(one, other)",
        "parting_values(web, one, other)", "holds_in(web, one, other)", "between_forms(one, other)", "is_tied_form(one, other)",
        "each_form(letters, size)",
    ),
    "onebetween.text.texts": (
        "write_web(web)", "read_web(text)", "write_walk(value)", "read_walk(text)", "write_paper(paper)", "read_paper(text)",
    ),
}

CONSTANTS = {
    "onebetween.base.words": {"MAX_FIGURES": 200},
    "onebetween.webs.webs": {"MAX_PLACES": 256},
    "onebetween.webs.making": {"MAX_PLACES": 256},
    "onebetween.lone.papers": {"MAX_DEPTH": 8, "MAX_PAPER": 64},
    "onebetween.lone.middles": {"MAX_STEPS": 100},
    "onebetween.webs.walks": {"MAX_STEPS": 200},
    "onebetween.lone.counts": {"MAX_STEPS": 200, "MAX_LENGTH": 60},
    "onebetween.lone.tours": {"MAX_PLACES": 64},
    "onebetween.lone.closures": {"MAX_FORCE": 16, "MAX_SETS": 1000},
    "onebetween.lone.maps": {"MAX_PLACES": 27},
    "onebetween.lone.refills": {"MAX_REFILLS": 2000},
    "onebetween.terms.terms": {"MAX_LETTERS": 200},
    "onebetween.terms.forms": {"MAX_CHAIN": 400, "MAX_VALUES": 20000},
}

# The classes of the interface: how they are called, and their methods and properties.
CLASSES = {
    Web: ("onebetween.webs.webs", "(rows)", (
        "from_lines(lines)", "turned(self)", "renamed(self, names)", "with_tie(self, one, other)", "without_tie(self, one, other)",
        "with_row(self, place, row)", "part(self, places)", "__getitem__(self, place)", "__contains__(self, value)", "__len__(self)",
        "__iter__(self)", "__eq__(self, value)", "__str__(self)",
    ), ("rows", "columns", "ties", "loops", "lines", "degree")),
    Keeper: ("onebetween.use.keeper", "(web)", (
        "switch(self, u, v, places, *, backward=False)", "rename(self, names)", "turn(self)", "lock(self, one, other)",
        "unlock(self, one, other)", "mark(self, letter, place)", "unmark(self, letter)", "find(self, term)",
        "moves(self, *, backward=False)", "undo(self, *, many=1)", "twin(self)", "trial(self)", "during(self, call)",
        "__contains__(self, value)", "__len__(self)", "__eq__(self, value)", "__str__(self)",
    ), ("web", "locks", "marks", "changes")),
    Shell: ("onebetween.text.shell", "(keeper)", ("keeper(self)", "__call__(self, command)", "__str__(self)"), ()),
}

# The builtins that may be called (L8), and the methods of builtin values that may be (L25).
BUILTINS = {
    "iter", "len", "range", "enumerate", "zip", "min", "max", "sum", "abs", "sorted", "reversed", "int", "str", "bool", "list", "tuple", "dict",
    "set", "isinstance", "ord", "repr", "any", "all", "divmod", "property", "staticmethod", "classmethod", "ArithmeticError", "IndexError",
    "KeyError", "LookupError", "OverflowError", "RuntimeError", "ValueError", "TypeError",
}
METHODS = {
    "append", "clear", "copy", "count", "endswith", "extend", "find", "get", "index", "insert", "isalnum", "isalpha", "isdigit", "islower",
    "isspace", "isupper", "items", "join", "keys", "ljust", "lower", "lstrip", "partition", "pop", "remove", "replace", "reverse", "rfind",
    "rjust", "rpartition", "rsplit", "rstrip", "setdefault", "split", "splitlines", "startswith", "strip", "update", "upper", "values",
    "zfill", "bit_length", "isascii",
}
# What walks a generator at once (L23).
WALKERS = ("list", "tuple", "sorted", "sum", "min", "max", "any", "all", "enumerate", "zip", "dict")


def trees():
    return [(path, ast.parse(path.read_text())) for path in FILES]


def name_of(path):
    return ".".join(path.relative_to(ROOT).with_suffix("").parts)


def functions(tree):
    return [node for node in ast.walk(tree) if isinstance(node, ast.FunctionDef)]


def without_docstrings(tree):
    """Return the text of the code without comments and docstrings."""
    for node in ast.walk(tree):
        if isinstance(node, (ast.Module, ast.ClassDef, ast.FunctionDef)) and ast.get_docstring(node) is not None:
            node.body[0].value.value = ""
    return ast.unparse(tree)


class Interface(unittest.TestCase):
    def test_functions(self):
        for module, texts in INTERFACE.items():
            for text in texts:
                call = getattr(importlib.import_module(module), text.split("(")[0])
                self.assertEqual(call.__name__ + str(inspect.signature(call)), text)
                self.assertEqual(call.__module__, module)

    def test_constants(self):
        for module, constants in CONSTANTS.items():
            for name, value in constants.items():
                self.assertEqual(getattr(importlib.import_module(module), name), value)

    def test_classes(self):
        for some, (module, call, methods, properties) in CLASSES.items():
            self.assertEqual(str(inspect.signature(some)), call)
            self.assertEqual(some.__module__, module)
            for text in methods:
                name = text.split("(")[0]
                self.assertIn(name, vars(some))
                self.assertEqual(name + str(inspect.signature(getattr(some, name))), text)
            for name in properties:
                self.assertIsInstance(vars(some)[name], property)

    def test_all_modules_are_listed(self):
        listed = set(INTERFACE) | {module for module, _, _, _ in CLASSES.values()} | {"onebetween.errors"}
        for module in listed:
            self.assertTrue((ROOT / (module.replace(".", "/") + ".py")).is_file(), module)
        self.assertEqual(len(listed), 20)


class Files(unittest.TestCase):
    def test_folders(self):
        for path in PACKAGE.rglob("*"):
            if "__pycache__" in path.parts:
                continue
            if path.is_dir():
                self.assertTrue((path / "__init__.py").is_file(), path)
            else:
                self.assertRegex(path.name, r"\A[a-z0-9_]+\.py\Z")

    def test_sizes(self):
        for path in FILES:
            text = path.read_text()
            self.assertRegex(text, r"\A[\n -~]*\Z", path)
            lines = text.splitlines()
            self.assertLessEqual(len(lines), 399, path)
            self.assertLessEqual(max([0] + [len(line) for line in lines]), 120, path)

    def test_functions_are_small(self):
        for path, tree in trees():
            for node in ast.walk(tree):
                if isinstance(node, ast.FunctionDef):
                    self.assertLessEqual(node.end_lineno - node.lineno + 1, 40, (path, node.name))

    def test_imports(self):
        defined = {}
        for path, tree in trees():
            targets = [node.targets[0].id for node in tree.body if isinstance(node, ast.Assign)]
            defined[name_of(path)] = targets + [node.name for node in tree.body if hasattr(node, "name")]
        for path, tree in trees():
            for node in ast.walk(tree):
                self.assertNotIsInstance(node, ast.Import, path)
                if isinstance(node, ast.ImportFrom) and node.module not in ("heapq", "math", "itertools", "collections"):
                    self.assertEqual(node.level, 0)
                    for alias in node.names:
                        self.assertIn(alias.name, defined[node.module], path)

    def test_names_have_one_meaning(self):
        for path, tree in trees():
            # The examples that doctest runs leave their last value in builtins, as "_".
            taken = set(dir(builtins)) - {"_"}
            for node in tree.body:
                if isinstance(node, ast.ImportFrom):
                    taken.update(alias.name for alias in node.names)
                elif hasattr(node, "name"):
                    taken.add(node.name)
            for call in functions(tree):
                names = {node.arg for node in ast.walk(call) if isinstance(node, ast.arg)}
                names.update(node.id for node in ast.walk(call) if isinstance(node, ast.Name) and isinstance(node.ctx, ast.Store))
                self.assertEqual(names & taken, set(), (path, call.name))

    def test_imports_are_used(self):
        for path, tree in trees():
            used = {node.id for node in ast.walk(tree) if isinstance(node, ast.Name)}
            for node in tree.body:
                if isinstance(node, ast.ImportFrom):
                    self.assertEqual({alias.name for alias in node.names} - used, set(), path)

    def test_generators(self):
        calls = [call for _, tree in trees() for call in functions(tree)]
        generators = {call.name for call in calls if any(isinstance(node, (ast.Yield, ast.YieldFrom)) for node in ast.walk(call))}
        self.assertLessEqual({"each_walk", "each_ring", "each_tree", "each_tour", "each_switch", "each_map", "each_term", "each_form"}, generators)
        for name in generators:
            self.assertEqual(len([call for call in calls if call.name == name]), 1, name)
        for path, tree in trees():
            iterated = [node.iter for node in ast.walk(tree) if isinstance(node, ast.For)]
            iterated.extend(node.value for node in ast.walk(tree) if isinstance(node, ast.YieldFrom))
            for node in ast.walk(tree):
                if isinstance(node, ast.Call) and isinstance(node.func, ast.Name) and node.func.id in WALKERS:
                    iterated.extend(node.args[:1])
            for node in ast.walk(tree):
                if isinstance(node, ast.Name) and node.id in generators:
                    self.assertIn(node, [call.func for call in iterated if isinstance(call, ast.Call)], path)
                # Beside a generator's call stand only names, attributes and literals.
                if isinstance(node, ast.Call) and isinstance(node.func, ast.Name) and node.func.id in generators:
                    self.assertTrue(all(isinstance(given, (ast.Name, ast.Attribute, ast.Constant)) for given in node.args), path)

    def test_builtins(self):
        for path, tree in trees():
            for node in ast.walk(tree):
                if isinstance(node, ast.Name) and hasattr(builtins, node.id):
                    self.assertIn(node.id, BUILTINS | {"_"}, (path, node.lineno))

    def test_methods(self):
        own = {call.name for _, tree in trees() for call in functions(tree)}
        for path, tree in trees():
            for node in ast.walk(tree):
                if isinstance(node, ast.Call) and isinstance(node.func, ast.Attribute):
                    self.assertIn(node.func.attr, METHODS | own, (path, node.lineno))
                    if node.func.attr in METHODS:
                        self.assertEqual(node.keywords, [], (path, node.lineno))

    def test_calls_at_once(self):
        # Ranges, zips, enumerations and views are walked where they stand.
        for path, tree in trees():
            walked = []
            for node in ast.walk(tree):
                if isinstance(node, (ast.For, ast.comprehension)):
                    walked.append(node.iter)
                if isinstance(node, ast.Call) and isinstance(node.func, ast.Name) and node.func.id in WALKERS + ("reversed",):
                    walked.extend(node.args)
                if isinstance(node, ast.Compare):
                    walked.extend(node.comparators)
            for node in ast.walk(tree):
                if not isinstance(node, ast.Call):
                    continue
                if isinstance(node.func, ast.Name) and node.func.id in ("range", "zip", "enumerate", "reversed"):
                    self.assertIn(node, walked, (path, node.lineno))
                if isinstance(node.func, ast.Attribute) and node.func.attr in ("items", "keys", "values"):
                    self.assertIn(node, walked, (path, node.lineno))

    def test_sets(self):
        # Sets are not kept: they stand in sorted or len, or behind in or beside ==.
        for path, tree in trees():
            let = []
            for node in ast.walk(tree):
                if isinstance(node, ast.Call) and isinstance(node.func, ast.Name) and node.func.id in ("sorted", "len"):
                    let.extend(node.args)
                if isinstance(node, ast.Compare):
                    let.extend([node.left] + node.comparators)
            for node in ast.walk(tree):
                made = isinstance(node, ast.Call) and isinstance(node.func, ast.Name) and node.func.id in ("set", "frozenset")
                if made or isinstance(node, (ast.Set, ast.SetComp)):
                    self.assertIn(node, let, (path, node.lineno))

    def test_catches(self):
        errors = {node.name for node in ast.walk(ast.parse((PACKAGE / "errors.py").read_text())) if isinstance(node, ast.ClassDef)}
        for path, tree in trees():
            for node in ast.walk(tree):
                if isinstance(node, ast.ExceptHandler):
                    self.assertIsInstance(node.type, ast.Name, path)
                    self.assertIn(node.type.id, errors | {"KeyError", "ZeroDivisionError"}, path)
                if isinstance(node, ast.Raise) and node.exc is not None:
                    self.assertIsInstance(node.exc, ast.Call, path)
                    self.assertIn(node.exc.func.id, errors | {"TypeError"}, path)

    def test_statements(self):
        let = (
            ast.FunctionDef, ast.ClassDef, ast.Return, ast.Assign, ast.AugAssign, ast.For, ast.While, ast.If, ast.Raise, ast.Try, ast.ImportFrom,
            ast.Expr, ast.Pass, ast.Break, ast.Continue,
        )
        for path, tree in trees():
            for node in ast.walk(tree):
                if isinstance(node, ast.stmt):
                    self.assertIsInstance(node, let, (path, node.lineno))
            for node in tree.body:
                self.assertIsInstance(node, (ast.FunctionDef, ast.ClassDef, ast.Assign, ast.ImportFrom, ast.Expr), path)

    def test_no_sort_of_lists_and_no_percent(self):
        for path, tree in trees():
            for node in ast.walk(tree):
                if isinstance(node, ast.Attribute):
                    self.assertNotEqual(node.attr, "sort", path)
            for node in ast.walk(ast.parse(without_docstrings(tree))):
                if isinstance(node, ast.Constant) and isinstance(node.value, str):
                    self.assertNotIn("%", node.value, path)

    def test_names_of_methods_and_attributes(self):
        methods, stored, properties = set(), set(), set()
        for _, tree in trees():
            for some in ast.walk(tree):
                if isinstance(some, ast.ClassDef):
                    for call in functions(some):
                        kind = properties if any(getattr(node, "id", "") == "property" for node in call.decorator_list) else methods
                        kind.add(call.name)
                if isinstance(some, ast.Attribute) and isinstance(some.ctx, ast.Store):
                    stored.add(some.attr)
        self.assertEqual(methods & stored, set())
        self.assertEqual(properties & (stored | methods), set())
        kinds = (str, int, list, dict, tuple, set, bytes)
        self.assertEqual({name for name in properties | stored if any(hasattr(kind, name) for kind in kinds)}, set())

    def test_imports_make_no_ring(self):
        from_path = {name_of(path): [node.module for node in tree.body if isinstance(node, ast.ImportFrom)] for path, tree in trees()}
        ahead = {name: {other for other in others if other in from_path} for name, others in from_path.items()}
        while ahead:
            last = [name for name, others in ahead.items() if not others & set(ahead)]
            self.assertNotEqual(last, [], sorted(ahead))
            ahead = {name: others for name, others in ahead.items() if name not in last}

    def test_barred_words(self):
        for path, tree in trees():
            found = BARRED.findall(without_docstrings(tree))
            self.assertEqual(found, [], path)

    def test_nothing_barred_is_used(self):
        barred = (ast.GeneratorExp, ast.AsyncFunctionDef, ast.Global, ast.Div)
        for path, tree in trees():
            for node in ast.walk(tree):
                self.assertNotIsInstance(node, barred, path)
                if isinstance(node, ast.Constant):
                    self.assertNotIsInstance(node.value, (float, complex), path)
                if isinstance(node, ast.BinOp) and isinstance(node.op, ast.Pow):
                    self.assertIsInstance(node.right, ast.Constant, path)


if __name__ == "__main__":
    unittest.main()
