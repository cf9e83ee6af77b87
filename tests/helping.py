"""What the tests share."""

import unittest

from risensigns import errors

ATTRIBUTES = {
    "BadSign": "at", "NoPlace": "at", "Mismatch": "at",
    "BadHeight": "height", "Beyond": "height",
    "NoRule": "number", "BadLine": "line", "BadPlay": "step", "BadBound": "most",
    "TooLarge": "size", "NotEnough": "least", "TooLong": "least", "Useless": "state",
    "Uneven": None, "BadRule": None, "BookFull": None, "BadLot": None,
}


class Case(unittest.TestCase):
    def fault(self, kind, *wanted):
        """Return a caller that checks that its call raises this very error."""
        def call(function, *rest, **more):
            with self.assertRaises(ValueError) as caught:
                function(*rest, **more)
            error = caught.exception
            self.assertIs(type(error), kind)
            attribute = ATTRIBUTES[kind.__name__]
            if attribute is None:
                self.assertEqual(wanted, ())
                self.assertEqual(vars(error), {})
            else:
                self.assertEqual(vars(error), {attribute: wanted[0]})
                self.assertIs(type(getattr(error, attribute)), int)
            return error
        return call

    def same_rows(self, row, text, heights):
        """Check the signs and heights of a row."""
        self.assertEqual((row.signs, row.heights), (text, heights))


def error_class(name):
    return getattr(errors, name)
