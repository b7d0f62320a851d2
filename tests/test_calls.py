"""What holds of every function that is asked about a house: where it stands, and that it changes nothing (point 2)."""

import copy
import importlib
import inspect

from doorlots.houses import House
from tests.helper import Case, cube, four, kinds, line, path, random_houses, sixteen, square, state

INTERFACE = {
    "texts": {"read_house": "(text)"},
    "walks": {
        "walk": "(house, hall, row)", "effect": "(house, row)", "repeated": "(house, hall, row, times)",
        "period": "(house, row)",
    },
    "distances": {
        "distance": "(house, start, goal)", "shortest_row": "(house, start, goal)",
        "shortest_count": "(house, start, goal)", "spheres": "(house, start)",
    },
    "linking": {
        "corner_link": "(house, one, other)", "stretch_link": "(house, one, other)", "links": "(house)",
    },
    "lots": {"lots": "(house)", "are_bound": "(house, one, other)", "chain": "(house, one, other)"},
    "splits": {
        "part": "(house, colours)", "unsplittable_parts": "(house)", "is_split": "(house, grouping)",
        "split_count": "(house)", "addresses": "(house, grouping)", "hall_at": "(house, grouping, address)",
        "cross": "(houses)",
    },
    "rows": {
        "projection": "(row, colours)", "least_row": "(house, row)", "exchange_count": "(house, row)",
        "are_exchangeable": "(house, row, other_row)",
    },
}
# For each parameter a right argument for most houses, and arguments that are wrong for most of them.
ARGUMENTS = {
    "text": ("house 3\n0 1 a\n1 2 b", "house 3\n0 1 a", ["house 1"]),
    "hall": (0, 1, [0]),
    "start": (0, 1, [0]),
    "goal": (1, 0, (0,)),
    "row": (("b", "a", "b"), (), ("a", "z"), ["a", "b"], ("a", ["b"]), ("b", "a", "A")),
    "other_row": (("a", "b", "b"), (), ("a", "z"), ["a", "b"], ("a", ["b"])),
    "times": (10 ** 30, 0, [1]),
    "one": ("a", "z", ["a"]),
    "other": ("b", "a", ["b"]),
    "colours": (("a", "b"), ("b",), (), ["a"], ("b", "a"), ("a", ["b"])),
    "grouping": ((("a",), ("b",)), (("a", "b"),), (("a",),), (), [("a",), ("b",)], (("a",), ["b"])),
    "address": ((0, 1), (1, 0), (1,), [0, 1], (0, [1])),
    "houses": (
        (path(), House(2, ((0, 1, "c"),))), (), (square(), path()), [path()], (path(), [path()]),
        (line(64), House(2, ((0, 1, "c"),))), (sixteen(), House(2, ((0, 1, "q"),))),
    ),
}


def functions():
    for module, names in INTERFACE.items():
        for name in names:
            yield getattr(importlib.import_module("doorlots." + module), name)


def outcome(call, *args, **named):
    """What the call returns or raises, in a form that can be compared and that does not change."""
    try:
        result = call(*args, **named)
    except (ValueError, RuntimeError, ArithmeticError) as error:
        return type(error), copy.deepcopy(list(vars(error).items())), kinds(list(vars(error).values()))
    return copy.deepcopy(told(result)), kinds(result)


def told(value):
    """The value with houses written out."""
    if isinstance(value, House):
        return state(value)
    if isinstance(value, (tuple, list)):
        return type(value)(told(item) for item in value)
    return value


def choices(names):
    """Arguments for these parameters: the right ones, then each of the others in the place of a right one."""
    right = [ARGUMENTS[name][0] for name in names]
    yield right
    for at, name in enumerate(names):
        for value in ARGUMENTS[name][1:]:
            yield [*right[:at], value, *right[at + 1:]]


def some_houses():
    return [House(1), path(), square(), four(), cube(3), sixteen(), line(64), *random_houses(8)]


class Interface(Case):
    def test_names_and_parameters(self):
        for module, names in INTERFACE.items():
            for name, parameters in names.items():
                with self.subTest(name):
                    call = getattr(importlib.import_module("doorlots." + module), name)
                    self.assertTrue(inspect.isfunction(call))
                    self.assertEqual((call.__module__, call.__name__), ("doorlots." + module, name))
                    self.assertEqual(str(inspect.signature(call)), parameters)


class Calls(Case):
    def calls(self, houses):
        for call in functions():
            names = list(inspect.signature(call).parameters)
            for house in houses:
                for rest in choices([name for name in names if name != "house"]):
                    yield call, names, [house, *rest] if "house" in names else rest

    def test_by_position_and_by_name(self):
        for call, names, args in self.calls(some_houses()):
            first = outcome(call, *args)
            self.assertEqual(outcome(call, **dict(zip(names, args))), first)
            self.assertEqual(outcome(call, *args[:1], **dict(list(zip(names, args))[:0:-1])), first)

    def test_nothing_changes(self):
        houses = some_houses()
        before = [state(house) for house in houses]
        for call, names, args in self.calls(houses):
            given = copy.deepcopy(told(tuple(args)))
            outcome(call, *args)
            self.assertEqual(told(tuple(args)), given)
        self.assertEqual([state(house) for house in houses], before)

    def test_the_same_again(self):
        """Also for equal houses that are others, and after other houses were asked in between."""
        first = [outcome(call, *args) for call, names, args in self.calls(some_houses())]
        turned = [outcome(call, *args) for call, names, args in reversed(list(self.calls(some_houses())))]
        self.assertEqual(turned[::-1], first)
        houses = some_houses()
        for call, names, args in self.calls(houses):
            self.assertEqual(outcome(call, *args), outcome(call, *args))
        self.assertEqual([outcome(call, *args) for call, names, args in self.calls(houses)], first)
