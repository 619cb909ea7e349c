"""The errors: points 1.1 and 1.2."""

import unittest

from onebetween import errors
from tests.cases import Case
from tests.wrong_values import NO_COUNTS

BASES = {
    "WebError": ValueError,
    "InvalidWeb": errors.WebError,
    "InvalidWalk": errors.WebError,
    "InvalidTerm": errors.WebError,
    "InvalidPaper": errors.WebError,
    "InvalidOperation": errors.WebError,
    "ParseError": errors.WebError,
    "UnknownName": KeyError,
    "NoWalk": LookupError,
    "InvalidNumber": IndexError,
    "NothingToUndo": RuntimeError,
    "TooMany": OverflowError,
    "NotLone": ArithmeticError,
}

KEPT = {
    "ParseError": "line",
    "UnknownName": "word",
    "NoWalk": "ends",
    "InvalidNumber": "value",
    "NothingToUndo": "many",
    "TooMany": "limit",
    "NotLone": "reason",
}


class Errors(Case):
    def test_bases(self):
        for name, base in BASES.items():
            with self.subTest(name=name):
                self.assertEqual(getattr(errors, name).__bases__, (base,))

    def test_web_error_is_no_base_of_the_others(self):
        for name in ("UnknownName", "NoWalk", "InvalidNumber", "NothingToUndo", "TooMany", "NotLone"):
            with self.subTest(name=name):
                self.assertFalse(issubclass(getattr(errors, name), errors.WebError))
                self.assertFalse(issubclass(getattr(errors, name), ValueError))

    def test_errors_are_not_derived_from_one_another(self):
        for name in BASES:
            for other in BASES:
                if name != other and other != "WebError":
                    self.assertFalse(issubclass(getattr(errors, name), getattr(errors, other)), (name, other))

    def test_each_stands_in_its_module(self):
        for name in BASES:
            self.assertEqual(getattr(errors, name).__module__, "onebetween.errors")
            self.assertEqual(getattr(errors, name).__name__, name)

    def test_what_is_kept(self):
        for name, attribute in KEPT.items():
            for value in NO_COUNTS + (0, 1, 255):
                raised = getattr(errors, name)(value)
                self.assertIs(getattr(raised, attribute), value)
                self.assertEqual(list(vars(raised)), [attribute])

    def test_what_is_kept_stays_when_it_is_raised(self):
        for name, attribute in KEPT.items():
            value = [name]
            with self.assertRaises(BASES[name]) as caught:
                raise getattr(errors, name)(value)
            self.assertIs(getattr(caught.exception, attribute), value)

    def test_parameters(self):
        for name, attribute in KEPT.items():
            self.assertEqual(getattr(getattr(errors, name)(**{attribute: 7}), attribute), 7)
            with self.assertRaises(TypeError):
                getattr(errors, name)()

    def test_messages(self):
        for name in BASES:
            if name not in KEPT:
                self.assertEqual(str(getattr(errors, name)("a message")), "a message")


if __name__ == "__main__":
    unittest.main()
