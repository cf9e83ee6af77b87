"""The classes of the errors (point 2 and the interface)."""

import unittest

from risensigns import errors
from tests.helping import ATTRIBUTES, Case, error_class

MADE = [name for name in ATTRIBUTES if name != "Useless"]


class ErrorClasses(Case):
    def test_base(self):
        self.assertEqual(errors.RiseError.__bases__, (ValueError,))

    def test_direct_bases(self):
        for name in MADE:
            self.assertEqual(error_class(name).__bases__, (errors.RiseError,), name)

    def test_useless_is_a_bad_lot(self):
        self.assertEqual(errors.Useless.__bases__, (errors.BadLot,))

    def test_each_is_defined_in_its_file(self):
        for name in [*ATTRIBUTES, "RiseError"]:
            self.assertEqual(error_class(name).__module__, "risensigns.errors", name)
            self.assertEqual(error_class(name).__name__, name)

    def test_attributes(self):
        for name, attribute in ATTRIBUTES.items():
            if attribute is None:
                error = error_class(name)()
                self.assertEqual(vars(error), {}, name)
            else:
                error = error_class(name)(7)
                self.assertEqual(vars(error), {attribute: 7}, name)
            self.assertIsInstance(error, errors.RiseError)
            self.assertIsInstance(error, ValueError)

    def test_no_error_is_of_another_class(self):
        for name in ATTRIBUTES:
            for other in ATTRIBUTES:
                wanted = name == other or (name, other) == ("Useless", "BadLot")
                self.assertEqual(issubclass(error_class(name), error_class(other)), wanted, (name, other))

    def test_texts_can_be_shown(self):
        for name, attribute in ATTRIBUTES.items():
            error = error_class(name)() if attribute is None else error_class(name)(7)
            self.assertEqual("7" in str(error), attribute is not None, name)


if __name__ == "__main__":
    unittest.main()
