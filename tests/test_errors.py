import copy
import inspect
import unittest

from foldplans import errors

FIELDS = {
    "NoRule": ["name"],
    "NoKind": ["name"],
    "BadLoop": ["line"],
    "BadTable": ["line"],
    "EmptySum": ["row"],
    "OtherTags": [],
    "Doubled": [],
    "BadTag": ["index"],
    "BadValue": ["value"],
    "BadSize": ["size"],
    "NotClosed": ["left", "right"],
    "NoNormal": ["name"],
    "NotHere": ["name"],
    "NotNeighbours": [],
    "BadCount": ["count"],
    "NoTag": ["name"],
    "TooMany": [],
    "BadName": ["name"],
    "NoLoop": ["name"],
    "NotAlike": ["row"],
    "Barred": ["names"],
    "NothingToUndo": [],
}
VALUES = [None, "", "order", 0, -1, 10 ** 5000, ["t", "u"], ("t", "u"), [], {"a": 1}, b"a", object()]


class TestClasses(unittest.TestCase):
    def test_there_are_just_these(self):
        found = [name for name, one in vars(errors).items() if inspect.isclass(one)]
        self.assertEqual(len(FIELDS), 22)
        self.assertEqual(sorted(found), sorted(["FoldError", *FIELDS]))

    def test_each_derives_directly_from_the_base(self):
        self.assertEqual(errors.FoldError.__bases__, (ValueError,))
        for name in FIELDS:
            one = getattr(errors, name)
            self.assertEqual(one.__bases__, (errors.FoldError,), name)
            self.assertEqual(one.__module__, "foldplans.errors")

    def test_each_is_of_no_other_class(self):
        for name, fields in FIELDS.items():
            error = getattr(errors, name)(*["a"] * len(fields))
            self.assertIsInstance(error, errors.FoldError)
            self.assertIsInstance(error, ValueError)
            for other in FIELDS:
                self.assertEqual(isinstance(error, getattr(errors, other)), other == name)

    def test_each_can_be_raised_and_caught(self):
        for name, fields in FIELDS.items():
            for caught in (getattr(errors, name), errors.FoldError, ValueError):
                with self.assertRaises(caught):
                    raise getattr(errors, name)(*["a"] * len(fields))


class TestFields(unittest.TestCase):
    def test_fields_become_attributes_whatever_is_passed(self):
        for name, fields in FIELDS.items():
            for at in range(len(VALUES)):
                given = (VALUES[at:] + VALUES[:at])[:len(fields)]
                error = getattr(errors, name)(*given)
                self.assertEqual([getattr(error, field) for field in fields], given)
                self.assertEqual(list(vars(error)), fields)

    def test_constructors_take_just_the_fields(self):
        for name, fields in FIELDS.items():
            with self.assertRaises(TypeError):
                getattr(errors, name)(*["a"] * (len(fields) + 1))
            if fields:
                with self.assertRaises(TypeError):
                    getattr(errors, name)()

    def test_lists_are_copied(self):
        for one, field in ((errors.EmptySum, "row"), (errors.NotAlike, "row"), (errors.Barred, "names")):
            given = ["t", "u"]
            error = one(given)
            given.append("t")
            self.assertEqual(getattr(error, field), ["t", "u"])

    def test_errors_can_be_copied_and_shown(self):
        for name, fields in FIELDS.items():
            error = getattr(errors, name)(*["a", "b"][:len(fields)])
            self.assertEqual(vars(copy.copy(error)), vars(error))
            self.assertIsInstance(str(error), str)


if __name__ == "__main__":
    unittest.main()
