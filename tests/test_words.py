"""Integers, counts and letters: point 0.1, and stage 1."""

import string
import unittest

from onebetween.base import words
from onebetween.base.words import is_arrangement, is_ascending, is_count, is_integer, is_letter, is_number_word, is_within
from tests.cases import Case
from tests.wrong_values import LONG, LONG_INTEGERS, NEGATIVE_INTEGERS, NO_COUNTS, NO_INTEGERS


class Integers(Case):
    def test_constant(self):
        self.assertSame(words.MAX_FIGURES, 200)

    def test_integers(self):
        for value in (0, 1, -1, 2, 255, -256, 10 ** 100):
            self.assertIs(is_integer(value), True)

    def test_numbers_of_figures(self):
        for figures in (1, 2, 50, 198, 199, 200, 201, 202, 249, 250):
            least = 10 ** (figures - 1)
            most = 10 ** figures - 1
            for value in (least, most, -least, -most):
                self.assertIs(is_integer(value), figures <= 200, (figures, value > 0))

    def test_very_long_integers(self):
        self.assertIs(is_integer(10 ** 10000), False)
        self.assertIs(is_count(-10 ** 10000), False)

    def test_no_integers(self):
        for value in NO_INTEGERS + LONG_INTEGERS + (1.0, 0.5, b"1", {1}, int, is_integer):
            self.assertIs(is_integer(value), False)

    def test_counts(self):
        for value in (0, 1, 7, 10 ** 199, LONG - 1):
            self.assertIs(is_count(value), True)
        for value in NO_COUNTS + (LONG, 1.0, b"1", int):
            self.assertIs(is_count(value), False)
        for value in NEGATIVE_INTEGERS:
            self.assertIs(is_integer(value), True)


class Letters(Case):
    def test_letters(self):
        for number in range(0, 0x250):
            self.assertIs(is_letter(chr(number)), chr(number) in string.ascii_lowercase)

    def test_no_letters(self):
        for value in NO_COUNTS + (0, 1, "ab", "aa", "a ", "", b"a", ["a"], ("a",), {"a": "a"}):
            if not (isinstance(value, str) and len(value) == 1):
                self.assertIs(is_letter(value), False)


class Helpers(Case):
    def test_within(self):
        self.assertEqual([value for value in range(-3, 9) if is_within(value, -1, 5)], [-1, 0, 1, 2, 3, 4, 5])
        for value in NO_INTEGERS + LONG_INTEGERS:
            self.assertIs(is_within(value, -10 ** 300, 10 ** 300), False)

    def test_number_words(self):
        for value in ("0", "1", "10", "256", "9" * 200):
            self.assertIs(is_number_word(value), True)
        for value in ("", "00", "01", "-1", "+1", " 1", "1 ", "1\n", "1_0", "1.0", "a", "\u0661", "\u00b2", "9" * 201, 0, None):
            self.assertIs(is_number_word(value), False)

    def test_ascending(self):
        for value in ((), (0,), (4,), (0, 1), (0, 4), (0, 1, 2, 3, 4)):
            self.assertIs(is_ascending(value, 5), True)
        for value in ((5,), (-1,), (1, 0), (1, 1), (0, 2, 2), (0, 3, 1), (0, True), (False, 1), [0, 1], "01", None, (0, "1"), ((0, 1),)):
            self.assertIs(is_ascending(value, 5), False)

    def test_arrangements(self):
        for value in ((0, 1, 2), (2, 1, 0), (1, 2, 0)):
            self.assertIs(is_arrangement(value, 3), True)
        for value in ((), (0, 1), (0, 1, 1), (0, 1, 2, 2), (0, 1, 3), (0, True, 2), [0, 1, 2], "012", None, (0, 1, [])):
            self.assertIs(is_arrangement(value, 3), False)


if __name__ == "__main__":
    unittest.main()
