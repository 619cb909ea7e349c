"""Lines of webs: point 2.1, and Web.from_lines."""

import itertools
import unittest

from onebetween.errors import InvalidWeb, ParseError
from onebetween.webs.webs import Web
from tests.cases import Case
from tests.wrong_values import BENT, FOUR, LONG_INTEGERS, NINE, NO_COUNTS, without

NO_LINES = (
    "", " ", "\n", "0", "0 to", "0 to ", " 0 to 1", "0 to 1 ", "0  to 1", "0 to  1", "0 to 1  2", "0 to 1\n", "\n0 to 1",
    "0 to\n1", "0 to\t1", "0\tto 1", "0 TO 1", "0 To 1", "0 too 1", "0 t 1", "0 -> 1", "0 1", "0 1 2", "to 1", " to 1", "0to 1", "0 to1",
    "00 to 1", "01 to 1", "0 to 00", "0 to 01", "0 to 1 02", "-1 to 0", "0 to -1", "-0 to 1", "+0 to 1", "0 to +1", "0.0 to 1",
    "0 to 1_0", "1_0 to 1", "0 to 1,2", "0 to 1, 2", "0 to x", "x to 0", "0x1 to 0", "0 to 1 x", "0 to 0 x 1",
    "0 to 1 1", "0 to 1 0", "0 to 0 2 1", "0 to 0 1 1", "0 to 2 10 9", "0 to 10 9", "0 to 300 300", "0 to 400 300",
    "0 to nothing 1", "0 to 1 nothing", "0 to nothing nothing", "0 to Nothing", "0 to nothing ", "0 to none", "0 to noth", "nothing to 0",
    "nothing", "0 to \u0661", "\u0661 to 0", "0 to \u00b2", "0 to 1\n1 to 0", "0 to 0; 1 to 1", "x" * 8000, "0 " * 4000, "0 to" * 2000,
)


class Reading(Case):
    def check_parse_error(self, lines, index):
        with self.subTest(lines=lines):
            self.assertSame(self.assertRaisesJust(ParseError, Web.from_lines, lines).line, index)

    def check_invalid(self, lines):
        with self.subTest(lines=lines):
            self.assertRaisesJust(InvalidWeb, Web.from_lines, lines)

    def test_any_order(self):
        for web in (BENT, FOUR, Web(((1,), ())), Web(((),))):
            for lines in itertools.permutations(web.lines):
                found = Web.from_lines(lines)
                self.assertIs(found.__class__, Web)
                self.assertSame(found.rows, web.rows)
        self.assertEqual(Web.from_lines(NINE.lines[::-1]), NINE)

    def test_largest(self):
        for many in (11, 101, 255, 256):
            web = Web((tuple(range(many)),) * many)
            self.assertEqual(Web.from_lines(web.lines), web)
            self.assertEqual(Web.from_lines(web.lines[::-1]), web)

    def test_numbers_are_compared_as_numbers(self):
        rest = tuple(f"{place} to nothing" for place in range(1, 11))
        self.assertSame(Web.from_lines(("0 to 2 9 10",) + rest)[0], (2, 9, 10))

    def test_no_tuple(self):
        for value in NO_COUNTS + LONG_INTEGERS + (0, 1, list(FOUR.lines), "0 to 0", {0: "0 to 0"}, FOUR, "\n".join(FOUR.lines)):
            if not isinstance(value, tuple):
                self.check_parse_error(value, None)

    def test_no_lines(self):
        for line in NO_LINES:
            self.check_parse_error((line,), 0)
            self.check_parse_error(("1 to nothing", line), 1)
            self.check_parse_error(("0 to 0", "1 to nothing", line, "2 to nothing"), 2)

    def test_no_strings(self):
        for value in without(NO_COUNTS, "0 to 1") + (0, 1, b"0 to 0", ["0 to 0"], ("0 to 0",), {"0 to 0": "0 to 0"}):
            self.check_parse_error(("0 to 0", value), 1)
            self.check_parse_error((value, "0 to 0"), 0)
        self.check_parse_error((("0", "to", "0"),), 0)
        self.check_parse_error((["0", "to", "0"],), 0)

    def test_the_first_that_cannot_come(self):
        self.check_parse_error(("0 to 0", "x", "y"), 1)
        self.check_parse_error(("0 to 0", "0 to 0"), 1)
        self.check_parse_error(("0 to 0", "1 to 0", "0 to nothing", "x"), 2)
        self.check_parse_error(("0 to 0", "x", "0 to nothing"), 1)
        self.check_parse_error(("0 to 0", "1 to 0", "1 to 0", "0 to 0"), 2)
        # Lines with places that no web can have are lines.
        self.check_parse_error(("300 to 1000", "300 to nothing"), 1)
        self.check_parse_error(("7 to 9", "1 to 9", "x"), 2)
        long_number = "9" * 200
        self.check_parse_error((f"{long_number} to 0", f"{long_number} to 0"), 1)

    def test_parse_errors_come_first(self):
        many = tuple(f"{place} to nothing" for place in range(300))
        self.check_parse_error(many + ("x",), 300)
        self.check_parse_error(many + ("299 to 1",), 300)
        self.check_parse_error(many[:256] + ("0 to 1",), 256)
        self.check_parse_error(("0 to 5", "2 to 0", "x"), 2)

    def test_wrong_places(self):
        self.check_invalid(("1 to nothing",))
        self.check_invalid(("1 to 1",))
        self.check_invalid(("0 to 0", "2 to 0"))
        self.check_invalid(("1 to 1", "2 to 2"))
        self.check_invalid(("0 to 0", "1 to 0", "3 to 0"))
        self.check_invalid(("9" * 200 + " to 0",))

    def test_wrong_rows(self):
        self.check_invalid(("0 to 1",))
        self.check_invalid(("0 to 0 1",))
        self.check_invalid(("0 to 0", "1 to 2"))
        self.check_invalid(("1 to 0 1 2", "0 to nothing"))
        self.check_invalid(("0 to 256",))
        self.check_invalid(("0 to 0 " + "9" * 200,))

    def test_wrong_numbers_of_lines(self):
        self.check_invalid(())
        many = tuple(f"{place} to nothing" for place in range(258))
        self.assertEqual(len(Web.from_lines(many[:256])), 256)
        self.check_invalid(many[:257])
        self.check_invalid(many)

    def test_writing_and_reading(self):
        for rows in itertools.product(((), (0,), (2,), (0, 1), (0, 2), (0, 1, 2)), repeat=3):
            self.assertSame(Web.from_lines(Web(rows).lines).rows, rows)


if __name__ == "__main__":
    unittest.main()
