"""The error classes: their bases and what they keep."""

import unittest

from runclaims import errors

WITH_NAME = ("Known", "NoCell", "NoLabel", "NoPart", "NoQueue", "NoSystem", "NoWord")
WITH_NUMBER = ("BadLine", "NoNumber")
ALONE = ("NotReady", "NothingDone", "Unfit")


class Errors(unittest.TestCase):
    def assert_keeps(self, name, field, value):
        made = getattr(errors, name)
        for error in (made(value), made(**{field: value})):
            self.assertEqual(vars(error), {field: value})
            self.assertIsInstance(error, errors.ModelError)

    def test_bases(self):
        self.assertEqual(errors.ModelError.__bases__, (ValueError,))
        for name in WITH_NAME + WITH_NUMBER + ALONE + ("BadText",):
            self.assertEqual(getattr(errors, name).__bases__, (errors.ModelError,))

    def test_there_are_no_others(self):
        made = [name for name, thing in vars(errors).items() if isinstance(thing, type)]
        self.assertEqual(set(made), {"ModelError", "BadText", *WITH_NAME, *WITH_NUMBER, *ALONE})

    def test_values_are_kept(self):
        for name in WITH_NAME:
            self.assert_keeps(name, "name", "x")
            self.assert_keeps(name, "name", "")
        for name in WITH_NUMBER:
            self.assert_keeps(name, "number", -1)
        self.assert_keeps("BadText", "piece", 4)
        for name in ALONE:
            self.assertEqual(vars(getattr(errors, name)()), {})

    def test_each_can_be_caught_as_the_built_in_one(self):
        for name in ALONE:
            with self.assertRaises(ValueError):
                raise getattr(errors, name)()


if __name__ == "__main__":
    unittest.main()
