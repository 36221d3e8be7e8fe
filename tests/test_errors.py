"""The errors of the package: their attributes and what they stand under."""

import unittest

from growingrecords import errors

# For each class its arguments in order, by their names.
CLASSES = {
    "BadName": {"name": "A"},
    "NoField": {"name": "a"},
    "FieldThere": {"name": "a"},
    "Shared": {"name": "a"},
    "BadText": {"at": 3},
    "TooDeep": {"at": 3},
    "DoubleName": {"name": "a", "at": 3},
    "UnknownName": {"name": "a", "at": 3},
    "WrongCount": {"name": "f", "at": 3},
    "TooLarge": {"name": "f"},
    "UnknownFunction": {"name": "f"},
    "WrongArguments": {"name": "f"},
    "Failure": {"kind": "shared", "at": 3, "calls": (5, 7), "name": None},
    "NoBranch": {"at": 3},
    "Mismatch": {},
    "NotRefined": {"arguments": (1, 2)},
}


class TestErrors(unittest.TestCase):

    def test_base_stands_under_value_error(self):
        self.assertEqual(errors.RecordsError.__bases__, (ValueError,))

    def test_each_class_stands_directly_under_the_base(self):
        for name in CLASSES:
            with self.subTest(name):
                self.assertEqual(getattr(errors, name).__bases__, (errors.RecordsError,))

    def test_there_are_no_other_classes(self):
        found = {name for name, value in vars(errors).items() if isinstance(value, type)}
        self.assertEqual(found, {"RecordsError", *CLASSES})

    def test_classes_are_defined_in_their_file(self):
        for name in CLASSES:
            self.assertEqual(getattr(errors, name).__module__, "growingrecords.errors")

    def test_arguments_by_position_become_attributes(self):
        for name, arguments in CLASSES.items():
            with self.subTest(name):
                self.assertEqual(vars(getattr(errors, name)(*arguments.values())), arguments)

    def test_arguments_by_name_become_attributes(self):
        for name, arguments in CLASSES.items():
            with self.subTest(name):
                self.assertEqual(vars(getattr(errors, name)(**arguments)), arguments)

    def test_each_has_a_message(self):
        for name, arguments in CLASSES.items():
            self.assertNotEqual(str(getattr(errors, name)(*arguments.values())), "")

    def test_each_can_be_caught_as_value_error(self):
        for name, arguments in CLASSES.items():
            with self.assertRaises(ValueError):
                raise getattr(errors, name)(*arguments.values())

    def test_wrong_numbers_of_arguments(self):
        for name, arguments in CLASSES.items():
            with self.subTest(name), self.assertRaises(TypeError):
                getattr(errors, name)(*arguments.values(), 1)


if __name__ == "__main__":
    unittest.main()
