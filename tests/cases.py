"""What the test cases share."""

import unittest


class Case(unittest.TestCase):
    """A test case that compares values by their kinds, too, and asks for errors."""

    def assertSame(self, found, wanted):
        """Compare by repr, too: so True is not 1, and a list is no tuple."""
        self.assertEqual(found, wanted)
        self.assertEqual(repr(found), repr(wanted))

    def assertRaisesJust(self, error, call, *values, **named):
        """Check that the call raises this error, not one derived from it, and return the error."""
        with self.assertRaises(error) as caught:
            call(*values, **named)
        self.assertIs(caught.exception.__class__, error)
        return caught.exception

    def assertRefused(self, error, attribute, value, call, *values, **named):
        """Check the error, and that its attribute keeps the value itself as it was passed."""
        with self.subTest(value=value):
            raised = self.assertRaisesJust(error, call, *values, **named)
            if attribute is not None:
                self.assertIs(getattr(raised, attribute), value)

    def assertRefusals(self, call, right, *rules, **named):
        """Check what is refused for each parameter, alone and with all later parameters wrong, too.

        The right arguments are passed by position, and those of `named` by keyword. Each rule has the
        index or the name of a parameter, the wrong values for it, the error, and the attribute that keeps
        the value, or None. The rules stand in the order in which the parameters are checked.
        """
        for number, (key, values, error, attribute) in enumerate(rules):
            later = {rule[0]: rule[1][0] for rule in rules[number + 1:]}
            for value in values:
                for changes in ({key: value}, {**later, key: value}):
                    places = tuple(changes.get(index, good) for index, good in enumerate(right))
                    keywords = {name: changes.get(name, good) for name, good in named.items()}
                    self.assertRefused(error, attribute, value, call, *places, **keywords)

    def assertJudges(self, call, ahead, values):
        """Check that the last argument is judged False for values of any kind, whatever stands ahead."""
        for value in values:
            with self.subTest(value=value):
                self.assertIs(call(*ahead, value), False)
