"""What the tests share: a case that looks closely at errors and values, and some houses."""

import copy
import inspect
import itertools
import unittest

from doorlots import errors
from doorlots.houses import House

SQUARE_DOORS = ((0, 1, "a"), (0, 2, "b"), (1, 3, "b"), (2, 3, "a"))
PATH_DOORS = ((0, 1, "a"), (1, 2, "b"))
SIXTEEN = tuple("abcdefghijklmnop")
BASES = {
    errors.InvalidInput: ValueError,
    errors.StateError: RuntimeError,
    errors.LimitExceeded: ArithmeticError,
}


class Odd:
    """A value of a kind that the program does not know."""

    def __eq__(self, other):
        raise AssertionError("compared")

    def __repr__(self):
        raise AssertionError("written out")


NOT_INTEGERS = (None, True, False, "0", "a", "", b"0", (), (0,), [], [0], {}, Odd())
NOT_COLOURS = (
    None, True, False, 0, 7, -1, b"a", (), ("a",), [], ["a"], {}, {"a": 1}, Odd(),
    "", " ", "A", "Red", "reD", "a b", " a", "a ", "a\n", "\n", "a1", "1", "a-b", "a_b", "abcdefg", "z" * 4000,
)


def square():
    return House(4, SQUARE_DOORS)


def path():
    return House(3, PATH_DOORS)


def sixteen():
    """Two halls that are joined by a door of each of sixteen colours."""
    return House(2, tuple((0, 1, colour) for colour in SIXTEEN))


def line(halls):
    """Halls in a row, joined by doors of the colours a and b in turn."""
    return House(halls, tuple((hall, hall + 1, "ab"[hall % 2]) for hall in range(halls - 1)))


def doors_between(halls, colours):
    """All doors that there could be, in ascending order."""
    pairs = itertools.combinations(range(halls), 2)
    return sorted((low, high, colour) for low, high in pairs for colour in colours)


def door_choices(halls, colours):
    """All ascending tuples of such doors."""
    doors = doors_between(halls, colours)
    for many in range(len(doors) + 1):
        yield from itertools.combinations(doors, many)


def kinds(value):
    """The kinds of a value and of all that it holds, so that True and 1 can be told apart."""
    if type(value) in (tuple, list):
        return (type(value), [kinds(item) for item in value])
    return type(value)


def state(house):
    return copy.deepcopy((house.halls, house.doors, vars(house)))


class Case(unittest.TestCase):
    def check_same(self, result, expected):
        self.assertEqual(result, expected)
        self.assertEqual(kinds(result), kinds(expected))

    def check_error(self, error, base, field, value):
        """The error has this base class and this one field, and the field has this value and no equal one."""
        self.assertEqual(type(error).__bases__, (base,))
        self.assertEqual(base.__bases__, (BASES[base],))
        self.assertEqual(list(vars(error)), [field])
        found = getattr(error, field)
        if found is not value:
            self.check_same(found, value)

    def check_raises(self, kind, field, value, call, *args, **named):
        """The call raises this very error, given its arguments by position and by name."""
        base = kind.__bases__[0]
        names = list(inspect.signature(call).parameters)
        for given, by_name in ((args, named), ((), dict(zip(names, args), **named))):
            with self.assertRaises(kind) as caught:
                call(*given, **by_name)
            self.assertIs(type(caught.exception), kind)
            self.check_error(caught.exception, base, field, value)

    def check_returns(self, expected, call, *args):
        """The call returns this value, given its arguments by position and by name."""
        names = list(inspect.signature(call).parameters)
        self.check_same(call(*args), expected)
        self.check_same(call(**dict(zip(names, args))), expected)

    def check_house(self, house, halls, doors):
        self.assertIs(type(house), House)
        self.check_same(house.halls, halls)
        self.check_same(house.doors, doors)

    def check_gives_house(self, halls, doors, call, *args):
        """The call returns this house, given its arguments by position and by name."""
        names = list(inspect.signature(call).parameters)
        self.check_house(call(*args), halls, doors)
        self.check_house(call(**dict(zip(names, args))), halls, doors)
