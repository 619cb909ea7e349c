"""No loop of the package changes what it walks, by whatever name: rule L23."""

import ast
import textwrap
import unittest
from pathlib import Path

from tests.loops import changed_while_walked

PACKAGE = Path(__file__).resolve().parent.parent / "onebetween"

# Bodies of functions with a loop in row 4 that changes what it walks, or may do so.
WRONG = (
    """
    layer = [0]
    nexts = []
    for mask in layer:
        nexts.append(mask)
    layer = nexts
    """,
    """
    layer = [0]
    other = layer
    for mask in layer:
        other.append(mask)
    """,
    """
    xs = list(rows)
    pass
    for x in xs:
        xs[0] = x
    """,
    """
    kept = {}
    more = kept
    for key, value in more.items():
        kept.pop(key)
    """,
    """
    pair = [rows, others]
    left, right = rows, others
    for at, row in enumerate(left):
        del rows[at]
    """,
    """
    told = rows if others else others
    again = told
    for row in again:
        others.insert(0, row)
    """,
    """
    self.rows = rows
    kept = self
    for row in self.rows:
        kept.rows.append(row)
    """,
    """
    table = [rows, others]
    part = table[0]
    for row in part:
        table[1].append(row)
    """,
    """
    found = []
    found.append(rows)
    for row in rows:
        found[-1].extend([row])
    """,
    """
    queue = [1]
    same = queue or rows
    for one in queue:
        heappush(same, one)
    """,
    """
    left = [rows]
    part = left.pop()
    for row in zip(rows, others):
        part.append(row)
    """,
    """
    left = [rows]
    part = rows
    found = [part.append(row) for row in rows]
    """,
)

# The same with another list, or a copy.
RIGHT = (
    """
    left = [0]
    while len(left) > 0:
        mask = left.pop()
        for place in rows:
            left.append(mask)
    """,
    """
    layer = [0]
    nexts = []
    for mask in list(layer):
        nexts.append(mask)
    layer = nexts
    """,
    """
    found = {}
    for place, row in enumerate(rows):
        found[place] = row
    found = [found[place] for place in range(len(found))]
    """,
    """
    table = [[] for _ in rows]
    for place in rows:
        table[place].append(place)
    """,
)


def rows_of(text):
    body = textwrap.indent(textwrap.dedent(text).strip(), "    ")
    return changed_while_walked(ast.parse(f"def call(self, rows, others):\n{body}\n"))


class Loops(unittest.TestCase):
    def test_wrong_rows_are_seen(self):
        for text in WRONG:
            with self.subTest(text=text):
                self.assertEqual(rows_of(text), [4])

    def test_right_rows_are_let(self):
        for text in RIGHT:
            with self.subTest(text=text):
                self.assertEqual(rows_of(text), [])

    def test_package(self):
        for path in sorted(PACKAGE.rglob("*.py")):
            with self.subTest(path=path):
                self.assertEqual(changed_while_walked(ast.parse(path.read_text())), [])


if __name__ == "__main__":
    unittest.main()
