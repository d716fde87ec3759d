"""The classes of errors: their bases and their attributes."""

import unittest

from norowstray import errors

PLAIN = ("InvalidScheme", "InvalidBook", "InvalidStore", "NoTable", "NoRow", "DoubledRow",
         "NoDependency", "InvalidQuestion", "NothingToUndo", "NothingToRedo")
LISTED = PLAIN + ("BadText", "Breach")


class ErrorTest(unittest.TestCase):
    def test_base_class(self):
        self.assertEqual(errors.TableError.__bases__, (ValueError,))
        self.assertEqual(str(errors.TableError("told")), "told")

    def test_each_is_a_direct_subclass(self):
        for name in LISTED:
            with self.subTest(name):
                self.assertEqual(getattr(errors, name).__bases__, (errors.TableError,))

    def test_all_classes_are_listed_and_unlike(self):
        classes = [getattr(errors, name) for name in LISTED]
        self.assertEqual(len(set(classes)), 12)
        for one in classes:
            self.assertEqual(one.__module__, "norowstray.errors")

    def test_raised_with_one_string(self):
        for name in PLAIN:
            with self.subTest(name):
                error = getattr(errors, name)("told")
                self.assertEqual(str(error), "told")
                self.assertEqual(error.args, ("told",))

    def test_attributes(self):
        self.assertEqual(errors.BadText(7).line, 7)
        error = errors.Breach(3, ((1, 2), (1, 3)))
        self.assertEqual(error.index, 3)
        self.assertEqual(error.rows, ((1, 2), (1, 3)))

    def test_attributes_may_be_long_numbers(self):
        self.assertEqual(errors.BadText(10 ** 5000).line, 10 ** 5000)
        error = errors.Breach(0, ((10 ** 5000,),))
        self.assertEqual(error.rows, ((10 ** 5000,),))
        self.assertIsInstance(str(error), str)
