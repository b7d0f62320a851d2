"""Point 6, and what point 2 says of errors."""

import inspect

from doorlots import errors
from tests.helper import BASES, Case, Odd

FIELDS = {
    errors.InvalidInput: {
        "InvalidHalls": "halls", "InvalidDoors": "position", "InvalidHouse": "house", "InvalidHall": "hall",
        "InvalidColour": "colour", "InvalidDoor": "door", "InvalidOrder": "order", "InvalidRow": "position",
        "InvalidTimes": "times", "InvalidLength": "length", "InvalidColours": "position",
        "InvalidGrouping": "position", "InvalidAddress": "address", "InvalidParts": "position",
        "InvalidCastle": "castle", "InvalidDeed": "position", "InvalidText": "line", "InvalidCommand": "command",
    },
    errors.StateError: {
        "Unreachable": "hall", "UnknownColour": "colour", "ColourTaken": "colour", "SharedColour": "colour",
        "DoorTaken": "hall", "NoDoor": "door", "NotASplit": "grouping", "UnknownLot": "lot",
    },
    errors.LimitExceeded: {"TooManyHalls": "many", "TooManyColours": "many"},
}
ROWS = [(base, name, field) for base, fields in FIELDS.items() for name, field in fields.items()]
# The messages of these show the field, which is never an argument of another kind.
FOUND = ("position", "line", "many")
FOUND_ERRORS = ("Unreachable", "DoorTaken", "ColourTaken", "SharedColour")


class ErrorClasses(Case):
    def test_three_base_classes(self):
        self.assertEqual(errors.InvalidInput.__bases__, (ValueError,))
        self.assertEqual(errors.StateError.__bases__, (RuntimeError,))
        self.assertEqual(errors.LimitExceeded.__bases__, (ArithmeticError,))

    def test_each_error_has_one_base_class(self):
        for base, name, field in ROWS:
            with self.subTest(name):
                self.assertEqual(getattr(errors, name).__bases__, (base,))
        self.assertEqual(errors.NothingToUndo.__bases__, (errors.StateError,))

    def test_the_list_is_complete_and_has_nothing_else(self):
        found = {name for name, value in vars(errors).items() if inspect.isclass(value)}
        expected = {name for base, name, field in ROWS} | {base.__name__ for base in BASES} | {"NothingToUndo"}
        self.assertEqual(found, expected)
        self.assertEqual(len(found), 32)

    def test_each_class_is_defined_in_its_file(self):
        for name, value in vars(errors).items():
            if inspect.isclass(value):
                self.assertEqual((value.__module__, value.__name__), ("doorlots.errors", name))


class ErrorFields(Case):
    def test_field_by_position_and_by_name(self):
        for base, name, field in ROWS:
            kind = getattr(errors, name)
            for value in (0, 1, None, True, "a", (0, 1, "a")):
                with self.subTest(name, value=value):
                    self.check_error(kind(value), base, field, value)
                    self.check_error(kind(**{field: value}), base, field, value)

    def test_field_is_the_very_value_of_any_kind(self):
        for base, name, field in ROWS:
            if field in FOUND or name in FOUND_ERRORS:
                continue
            for value in ([1, [2]], {"a": []}, Odd(), 10 ** 5000):
                with self.subTest(name):
                    error = getattr(errors, name)(value)
                    self.assertIs(getattr(error, field), value)
                    self.assertEqual(list(vars(error)), [field])

    def test_a_number_of_halls_that_python_does_not_write(self):
        many = 2 ** 20000
        self.check_error(errors.TooManyHalls(many), errors.LimitExceeded, "many", many)

    def test_each_error_needs_its_field(self):
        for base, name, field in ROWS:
            with self.subTest(name), self.assertRaises(TypeError):
                getattr(errors, name)()

    def test_nothing_to_undo_has_no_field(self):
        self.assertEqual(vars(errors.NothingToUndo()), {})
        with self.assertRaises(TypeError):
            errors.NothingToUndo(0)

    def test_errors_are_caught_by_their_bases(self):
        for base, name, field in ROWS:
            for caught in (getattr(errors, name), base, BASES[base]):
                with self.subTest(name), self.assertRaises(caught):
                    raise getattr(errors, name)(1)
        for caught in (errors.NothingToUndo, errors.StateError, RuntimeError):
            with self.assertRaises(caught):
                raise errors.NothingToUndo()

    def test_each_error_has_a_message(self):
        for base, name, field in ROWS:
            self.assertNotEqual(str(getattr(errors, name)(1)), "")
        self.assertNotEqual(str(errors.NothingToUndo()), "")
