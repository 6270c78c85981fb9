"""Point 3: the exceptions."""

import unittest

from flowkeep import errors

NAMES = [
    "InvalidNumber", "InvalidRow", "InvalidFormula", "InvalidGraph", "InvalidBlock", "InvalidName", "InvalidValues",
    "InvalidWay", "InvalidText", "InvalidPass", "InvalidPaper", "NotCounted", "NotOdd", "NotSingle", "NotPlain",
    "NoLoop", "TooMany", "NothingToUndo",
]


class ErrorsTest(unittest.TestCase):
    def test_flow_error_is_a_value_error(self):
        self.assertEqual(errors.FlowError.__bases__, (ValueError,))

    def test_all_are_direct_subclasses_of_flow_error(self):
        for name in NAMES:
            self.assertEqual(getattr(errors, name).__bases__, (errors.FlowError,), name)

    def test_none_is_a_subclass_of_another_one(self):
        for name in NAMES:
            for other in NAMES:
                if name != other:
                    self.assertFalse(issubclass(getattr(errors, name), getattr(errors, other)), (name, other))

    def test_each_is_defined_here(self):
        for name in NAMES + ["FlowError"]:
            found = getattr(errors, name)
            self.assertEqual((found.__module__, found.__name__), ("flowkeep.errors", name))

    def test_there_are_no_others(self):
        found = [name for name, value in vars(errors).items() if isinstance(value, type)]
        self.assertEqual(sorted(found), sorted(NAMES + ["FlowError"]))

    def test_each_can_be_raised_and_caught(self):
        for name in NAMES:
            with self.assertRaises(errors.FlowError):
                raise getattr(errors, name)("text")


class PackageTest(unittest.TestCase):
    def test_the_package_defines_no_names(self):
        with open(__import__("flowkeep").__file__, encoding="utf-8") as file:
            self.assertEqual(file.read().strip(), "")


if __name__ == "__main__":
    unittest.main()
