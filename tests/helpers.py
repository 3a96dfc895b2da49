"""What several tests need."""

import unittest

from crossfarers.errors import BadShape


class Case(unittest.TestCase):
    """A test case that looks at errors by their class and attributes."""

    def refused(self, error, attributes, call, *arguments, **more):
        """Check that the call raises exactly this error with exactly these attributes."""
        with self.assertRaises(error) as caught:
            call(*arguments, **more)
        self.assertIs(caught.exception.__class__, error)
        self.same(vars(caught.exception), attributes)

    def misshapen(self, parameter, call, *arguments, **more):
        """Check that the call raises BadShape of the parameter."""
        self.refused(BadShape, {"parameter": parameter}, call, *arguments, **more)

    def same(self, value, wanted):
        """Check that the values are equal and built of the same kinds, so that 1 is not True."""
        self.assertEqual(repr(value), repr(wanted))
        self.assertEqual(value, wanted)
