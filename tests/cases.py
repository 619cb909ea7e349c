"""What the test cases share."""

import unittest


class Case(unittest.TestCase):
    """A test case that compares values by their kinds, too, and asks for errors."""

    def assertSame(self, found, wanted):
        """Compare by repr, too: so True is not 1, and a list is no tuple."""
        self.assertEqual(found, wanted)
        self.assertEqual(repr(found), repr(wanted))

    def assertRaisesJust(self, error, call, *values):
        """Check that the call raises this error, not one derived from it, and return the error."""
        with self.assertRaises(error) as caught:
            call(*values)
        self.assertIs(caught.exception.__class__, error)
        return caught.exception

    def assertRefused(self, error, attribute, value, call, *values):
        """Check the error, and that its attribute keeps the value itself as it was passed."""
        with self.subTest(value=value):
            raised = self.assertRaisesJust(error, call, *values)
            self.assertIs(getattr(raised, attribute), value)
