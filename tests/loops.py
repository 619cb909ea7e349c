"""A look at code for loops that change what they walk, also by another name of it."""

import ast

# Methods of lists and dicts that change them, and functions that change their first argument.
CHANGES = ("append", "appendleft", "clear", "extend", "extendleft", "insert", "pop", "popleft", "remove", "reverse", "setdefault", "sort", "update")
HEAPS = ("heappush", "heappop", "heapify", "heapreplace", "heappushpop")
# Calls that walk their arguments, and methods that walk what they belong to.
WALKS = ("enumerate", "zip", "reversed", "chain", "pairwise", "islice", "accumulate", "map", "iter")
VIEWS = ("items", "keys", "values")
# Methods that give one of the values of a list or a dict.
ITEMS = ("pop", "popleft", "get", "setdefault")


def keys_of(node):
    """Return the keys of the values that an expression may be: names, attributes, items, choices of them."""
    if isinstance(node, ast.Name):
        return [node.id]
    if isinstance(node, (ast.Attribute, ast.Starred)):
        more = f".{node.attr}" if isinstance(node, ast.Attribute) else ""
        return [key + more for key in keys_of(node.value)]
    if isinstance(node, ast.Subscript) and not isinstance(node.slice, ast.Slice):
        return [key + "[]" for key in keys_of(node.value)]
    if isinstance(node, ast.IfExp):
        return keys_of(node.body) + keys_of(node.orelse)
    if isinstance(node, ast.BoolOp):
        return [key for value in node.values for key in keys_of(value)]
    if isinstance(node, ast.NamedExpr):
        return keys_of(node.target) + keys_of(node.value)
    if isinstance(node, ast.Call) and isinstance(node.func, ast.Attribute) and node.func.attr in ITEMS:
        return [key + "[]" for key in keys_of(node.func.value)]
    return []


def walked_keys(node):
    """Return the keys of what a loop over an expression walks."""
    if isinstance(node, ast.Call) and isinstance(node.func, ast.Name) and node.func.id in WALKS:
        return [key for given in node.args for key in walked_keys(given)]
    if isinstance(node, ast.Call) and isinstance(node.func, ast.Attribute) and node.func.attr in VIEWS:
        return keys_of(node.func.value)
    if isinstance(node, ast.Call) and isinstance(node.func, ast.Attribute) and node.func.attr == "from_iterable":
        return [key + more for given in node.args for key in walked_keys(given) for more in ("", "[]")]
    return keys_of(node)


class Names:
    """Which keys may stand for the same value, by the assignments of a function."""

    def __init__(self, call):
        self.call = call
        self.first = {}
        found = None
        while found != len(self.joined()):
            found = len(self.joined())
            for node in ast.walk(call):
                self.read(node)

    def joined(self):
        return [key for key in self.first if self.first[key] != key]

    def find(self, key):
        """Return the first key of those that stand for the same value."""
        if key.endswith("[]"):
            key = self.find(key[:-2]) + "[]"
        elif "." in key:
            owner, attribute = key.rsplit(".", 1)
            key = f"{self.find(owner)}.{attribute}"
        while self.first.get(key, key) != key:
            key = self.first[key]
        return key

    def join(self, keys, others):
        for key in keys:
            for other in others:
                one, two = sorted((self.find(key), self.find(other)))
                # A list is never its own item here: that would join all of them.
                if one != two and not one.startswith(two + "[]") and not two.startswith(one + "[]"):
                    self.first[two] = one
                    self.first.setdefault(one, one)

    def read(self, node):
        """Join what an assignment, a loop or a change makes the same."""
        if isinstance(node, ast.Assign):
            for target in node.targets:
                self.assign(target, node.value)
        elif isinstance(node, (ast.AnnAssign, ast.NamedExpr)) and node.value is not None:
            self.assign(node.target, node.value)
        elif isinstance(node, (ast.For, ast.comprehension)) and isinstance(node.target, ast.Name):
            self.join([node.target.id], [key + "[]" for key in keys_of(node.iter)])
        elif isinstance(node, ast.Call) and isinstance(node.func, ast.Attribute) and node.func.attr in ("append", "insert", "setdefault"):
            for given in node.args[-1:]:
                self.join([key + "[]" for key in keys_of(node.func.value)], keys_of(given))

    def assign(self, target, value):
        if isinstance(target, (ast.Tuple, ast.List)):
            given = value.elts if isinstance(value, (ast.Tuple, ast.List)) and len(value.elts) == len(target.elts) else []
            for one, other in zip(target.elts, given):
                self.assign(one, other)
            return
        self.join(keys_of(target), keys_of(value))
        items = value.values if isinstance(value, ast.Dict) else getattr(value, "elts", [])
        for item in items:
            self.join([key + "[]" for key in keys_of(target)], keys_of(item))


def changed_keys(node):
    """Return the keys of what a statement or an expression changes."""
    if isinstance(node, ast.Call) and isinstance(node.func, ast.Attribute) and node.func.attr in CHANGES:
        return keys_of(node.func.value)
    if isinstance(node, ast.Call) and isinstance(node.func, ast.Name) and node.func.id in HEAPS:
        return keys_of(node.args[0])
    if isinstance(node, ast.Subscript) and not isinstance(node.ctx, ast.Load):
        return keys_of(node.value)
    return []


def loops_of(call):
    """Return the pairs of what is walked and of the nodes in which it must not be changed."""
    found = []
    for node in ast.walk(call):
        if isinstance(node, ast.For):
            found.append((node.iter, node.body + node.orelse))
        elif isinstance(node, (ast.ListComp, ast.SetComp, ast.DictComp, ast.GeneratorExp)):
            found.extend((part.iter, [node]) for part in node.generators)
    return found


def changed_while_walked(tree):
    """Return the rows of the loops in which a list or dict is changed that may be the one that is walked."""
    rows = []
    for call in ast.walk(tree):
        if not isinstance(call, ast.FunctionDef):
            continue
        names = Names(call)
        for walked, nodes in loops_of(call):
            keys = {names.find(key) for key in walked_keys(walked)}
            changed = {names.find(key) for part in nodes for node in ast.walk(part) for key in changed_keys(node)}
            if keys & changed:
                rows.append(walked.lineno)
    return sorted(set(rows))
