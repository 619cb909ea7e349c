"""The examples of the document, as they stand there."""

import doctest
import unittest

from onebetween.base import numbers, words
from onebetween.webs.webs import Web

VALUES = """
FOUR = Web(((0, 1), (2, 3), (0, 1), (2, 3)))
NINE = Web(((0, 1, 2), (4, 5, 6), (3, 7, 8), (0, 1, 2), (3, 4, 5), (6, 7, 8), (0, 1, 2), (3, 4, 5), (6, 7, 8)))
BENT = Web(((0, 1), (2, 3), (0, 2), (1, 3)))
"""

STAGE_1 = """
>>> [is_integer(True), is_count(-1), is_letter("ab"), power(3, 4), exponent_of(2, 8), exponent_of(2, 6), exponent_of(1, 1), figures_of(2, 4, 5)]
[False, False, False, 81, 3, None, 0, (0, 1, 0, 1)]
>>> [number_of(3, (1, 0, 2)), number_of(5, ()), divisors(12), [moebius(1), moebius(2), moebius(6), moebius(12)], figures_of(1, 3, 0)]
[11, 0, (1, 2, 3, 4, 6, 12), [1, -1, 1, 0], (0, 0, 0)]
"""

STAGE_2 = """
>>> [FOUR.columns, FOUR.loops, FOUR.degree, FOUR.lines[1], (1, 2) in FOUR, FOUR[3], str(FOUR), Web(((1,), ())).degree]
[((0, 2), (0, 2), (1, 3), (1, 3)), (0, 3), 2, '1 to 2 3', True, (2, 3), 'web of 4 places, 8 ties', None]
>>> [FOUR.turned().rows, FOUR.renamed((1, 0, 2, 3)).rows, FOUR.part((0, 1)).lines]
[((0, 2), (0, 2), (1, 3), (1, 3)), ((2, 3), (0, 1), (0, 1), (2, 3)), ('0 to 0 1', '1 to nothing')]
>>> [FOUR.without_tie(0, 1).with_tie(0, 3).rows[0], FOUR.with_row(1, ()) == FOUR, Web.from_lines(("1 to nothing", "0 to 1")).rows]
[(0, 3), False, ((1,), ())]
"""


def names():
    """Return all names that the examples use."""
    found = {"Web": Web}
    for module in (words, numbers):
        found.update({name: getattr(module, name) for name in dir(module) if not name.startswith("_")})
    exec(VALUES, found)
    return found


class Examples(unittest.TestCase):
    def check(self, text, many):
        examples = doctest.DocTestParser().get_doctest(text, names(), "example", None, 0)
        self.assertEqual(len(examples.examples), many)
        told = []
        runner = doctest.DocTestRunner(verbose=False)
        runner.run(examples, out=told.append)
        self.assertEqual(runner.failures, 0, "".join(told))

    def test_stage_1(self):
        self.check(STAGE_1, 2)

    def test_stage_2(self):
        self.check(STAGE_2, 3)


if __name__ == "__main__":
    unittest.main()
