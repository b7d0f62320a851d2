"""What holds of every function of the interface: where it stands, and that it changes nothing (point 2)."""

import ast
import copy
import importlib
import inspect
import pathlib

from doorlots.castles import Castle
from doorlots.houses import House
from tests.helper import Case, cube, edge, four, kinds, line, path, random_houses, sixteen, square, state, told

PACKAGE = pathlib.Path(__file__).resolve().parent.parent / "doorlots"

INTERFACE = {
    "texts": {"read_house": "(text)"},
    "walks": {
        "walk": "(house, hall, row)", "effect": "(house, row)", "repeated": "(house, hall, row, times)",
        "period": "(house, row)",
    },
    "distances": {
        "distance": "(house, start, goal)", "shortest_row": "(house, start, goal)",
        "shortest_count": "(house, start, goal)", "spheres": "(house, start)",
    },
    "linking": {
        "corner_link": "(house, one, other)", "stretch_link": "(house, one, other)", "links": "(house)",
    },
    "lots": {"lots": "(house)", "are_bound": "(house, one, other)", "chain": "(house, one, other)"},
    "splits": {
        "part": "(house, colours)", "unsplittable_parts": "(house)", "is_split": "(house, grouping)",
        "split_count": "(house)", "addresses": "(house, grouping)", "hall_at": "(house, grouping, address)",
        "cross": "(houses)",
    },
    "rows": {
        "projection": "(row, colours)", "least_row": "(house, row)", "exchange_count": "(house, row)",
        "are_exchangeable": "(house, row, other_row)",
    },
    "alike": {
        "alike_map": "(one, other, *, start=0, other_start=0)", "difference": "(one, other, *, start=0, other_start=0)",
        "symmetries": "(house)", "renaming": "(one, other)",
    },
    "counts": {"rows_between": "(house, start, goal, length)"},
    "changes": {"freeing_doors": "(house, one, other)"},
    "castles": {"are_alike": "(one, other)", "castle_difference": "(one, other)"},
    "keep": {"replay": "(house, deeds)"},
    "checker": {"holds": "(claim, certificate)"},
    "certificates": {
        "certify_split": "(house, grouping)", "certify_pair": "(house, one, other)", "certify_finest": "(house)",
        "certify_alike": "(one, other)", "certify_distance": "(house, start, goal)",
        "certify_repeat": "(house, start, row, times)",
    },
}
CLASSES = {
    "houses": {"House": {
        "__init__": "(self, halls, doors=())", "colours": "(self)", "through": "(self, hall, colour)",
        "doors_at": "(self, hall)", "opened": "(self, door)", "shut": "(self, door)", "recoloured": "(self, old, new)",
        "renumbered": "(self, order)",
    }},
    "castles": {"Castle": {
        "__init__": "(self, parts)", "hall_count": "(self)", "colours": "(self)", "origin": "(self)",
        "moved": "(self, address, row)", "moved_times": "(self, address, row, times)", "period": "(self, row)",
        "distance": "(self, start, goal)", "shortest_row": "(self, start, goal)", "shortest_count": "(self, start, goal)",
        "spheres": "(self, start)", "rows_between": "(self, start, goal, length)", "refined": "(self)",
        "written": "(self)",
    }},
    "keep": {"Keep": {
        "__init__": "(self, house)", "do": "(self, deed)", "do_all": "(self, deeds, *, watch=None)", "undo": "(self)",
        "current_house": "(self)", "walker": "(self)", "current_lots": "(self)", "deed_log": "(self)",
        "lot_changes": "(self)",
    }},
    "desk": {"Desk": {"__init__": "(self, house)", "say": "(self, command)"}},
}
SPLIT = ("split", 4, square().doors, (("a",), ("b",)))
HOUSES = (square(), path(), square().renumbered((1, 0, 3, 2)), House(1), cube(3), line(64), [square()])
CASTLES = (Castle(()), Castle((path(), edge("c"))), Castle((edge("c"), path())), Castle((line(64),)), [Castle(())])
# For each parameter a right argument for most houses, and arguments that are wrong for most of them; where a function
# has another parameter of that name, the name of the function stands before it.
ARGUMENTS = {
    "text": ("house 3\n0 1 a\n1 2 b", "house 3\n0 1 a", ["house 1"]),
    "hall": (0, 1, [0]),
    "start": (0, 1, [0]),
    "goal": (1, 0, (0,)),
    "row": (("b", "a", "b"), (), ("a", "z"), ["a", "b"], ("a", ["b"]), ("b", "a", "A")),
    "other_row": (("a", "b", "b"), (), ("a", "z"), ["a", "b"], ("a", ["b"])),
    "times": (10 ** 30, 0, [1]),
    "one": ("a", "z", ["a"]),
    "other": ("b", "a", ["b"]),
    "colours": (("a", "b"), ("b",), (), ["a"], ("b", "a"), ("a", ["b"])),
    "grouping": ((("a",), ("b",)), (("a", "b"),), (("a",),), (), [("a",), ("b",)], (("a",), ["b"])),
    "address": ((0, 1), (1, 0), (1,), [0, 1], (0, [1])),
    "houses": (
        (path(), House(2, ((0, 1, "c"),))), (), (square(), path()), [path()], (path(), [path()]),
        (line(64), House(2, ((0, 1, "c"),))), (sixteen(), House(2, ((0, 1, "q"),))),
    ),
    "length": (7, 0, 200, 201, [1]),
    "other_start": (0, 1, [0]),
    "deeds": (
        (("push", "a"), ("push", "b")), (), (("push", "a"), ("open", 0, 2, "zz"), ("shut", 0, 2, "zz")), [("push", "a")],
        (("push", "a"), ["push", "a"]), (("drop", ("a",)), ("cross", 2, ((0, 1, "y"),))), (("drop", ["a"]),),
        (("cross", 2, [(0, 1, "y")]),), (("recolour", "a", "y"), ("push", ["a"])),
    ),
    "claim": (SPLIT, list(SPLIT), (*SPLIT[:3], [("a",), ("b",)]), ("finest", *SPLIT[1:])),
    "certificate": (((0, 0), (1, 0), (0, 1), (1, 1)), [(0, 0), (1, 0), (0, 1), (1, 1)], ((0, 0), [1, 0], (0, 1), (1, 1))),
    **{f"{call}.{name}": HOUSES for call in ("alike_map", "difference", "renaming", "certify_alike")
       for name in ("one", "other")},
    **{f"{call}.{name}": CASTLES for call in ("are_alike", "castle_difference") for name in ("one", "other")},
}


def functions():
    for module, names in INTERFACE.items():
        for name in names:
            yield getattr(importlib.import_module("doorlots." + module), name)


def outcome(call, *args, **named):
    """What the call returns or raises, in a form that can be compared and that does not change."""
    try:
        result = call(*args, **named)
    except (ValueError, RuntimeError, ArithmeticError) as error:
        return type(error), copy.deepcopy(list(vars(error).items())), kinds(list(vars(error).values()))
    return copy.deepcopy(told(result)), kinds(result)


def choices(call, names):
    """Arguments for these parameters: the right ones, then each of the others in the place of a right one."""
    values = {name: ARGUMENTS.get(f"{call.__name__}.{name}") or ARGUMENTS[name] for name in names}
    right = {name: values[name][0] for name in names}
    yield right
    for name in names:
        for value in values[name][1:]:
            yield {**right, name: value}


def by_position(call, named):
    """What the call gives if all arguments that can be passed by position are passed so."""
    kinds_of = {name: parameter.kind for name, parameter in inspect.signature(call).parameters.items()}
    args = [named[name] for name, kind in kinds_of.items() if kind == inspect.Parameter.POSITIONAL_OR_KEYWORD]
    rest = {name: named[name] for name, kind in kinds_of.items() if kind == inspect.Parameter.KEYWORD_ONLY}
    return outcome(call, *args, **rest)


def some_houses():
    return [House(1), path(), square(), four(), cube(3), sixteen(), line(64), *random_houses(8)]


def some_castles():
    return [Castle(()), Castle((path(), edge("c"))), Castle((square(), edge("c"), edge("x"))),
            Castle((line(64), sixteen().recoloured("a", "q").recoloured("b", "r")))]


class Interface(Case):
    def test_names_and_parameters(self):
        for module, names in INTERFACE.items():
            for name, parameters in names.items():
                with self.subTest(name):
                    call = getattr(importlib.import_module("doorlots." + module), name)
                    self.assertTrue(inspect.isfunction(call))
                    self.assertEqual((call.__module__, call.__name__), ("doorlots." + module, name))
                    self.assertEqual(str(inspect.signature(call)), parameters)

    def test_classes_and_methods(self):
        """Each method is defined in the class itself, and each class in its file."""
        for module, classes in CLASSES.items():
            tree = ast.parse((PACKAGE / (module + ".py")).read_text("ascii"))
            for name, methods in classes.items():
                kind = getattr(importlib.import_module("doorlots." + module), name)
                self.assertEqual((kind.__module__, kind.__name__), ("doorlots." + module, name))
                self.assertIn(name, [node.name for node in tree.body if isinstance(node, ast.ClassDef)])
                for method, parameters in methods.items():
                    with self.subTest(f"{name}.{method}"):
                        self.assertEqual(str(inspect.signature(vars(kind)[method])), parameters)


class Calls(Case):
    def calls(self, houses):
        for call in functions():
            names = list(inspect.signature(call).parameters)
            for house in houses if "house" in names else houses[:1]:
                for rest in choices(call, [name for name in names if name != "house"]):
                    yield call, {"house": house, **rest} if "house" in names else rest

    def test_by_position_and_by_name(self):
        for call, named in self.calls(some_houses()):
            first = outcome(call, **named)
            self.assertEqual(by_position(call, named), first)
            self.assertEqual(outcome(call, **dict(list(named.items())[::-1])), first)

    def test_nothing_changes(self):
        houses = some_houses()
        before = [state(house) for house in houses]
        for call, named in self.calls(houses):
            given = copy.deepcopy(told(tuple(named.values())))
            outcome(call, **named)
            self.assertEqual(told(tuple(named.values())), given)
        self.assertEqual([state(house) for house in houses], before)

    def test_the_same_again(self):
        """Also for equal houses that are others, and after other houses were asked in between."""
        first = [outcome(call, **named) for call, named in self.calls(some_houses())]
        turned = [outcome(call, **named) for call, named in reversed(list(self.calls(some_houses())))]
        self.assertEqual(turned[::-1], first)
        houses = some_houses()
        for call, named in self.calls(houses):
            self.assertEqual(outcome(call, **named), outcome(call, **named))
        self.assertEqual([outcome(call, **named) for call, named in self.calls(houses)], first)


class CastleCalls(Case):
    """The same of the methods of a Castle."""

    def calls(self, castles):
        for castle in castles:
            near, far = castle.origin(), tuple(house.halls - 1 for house in castle.parts)
            values = {
                "address": (near, far, [0], (0,) * 9), "start": (near, far, [0], (True,)), "goal": (far, near, [0], None),
                "row": (("b", "a", "c", "zz"), (), ("a", "A"), ["a"]), "times": (10 ** 30, 0, [1]),
                "length": (7, 0, 200, 201, [1]),
            }
            for method in CLASSES["castles"]["Castle"]:
                if method != "__init__":
                    call = getattr(castle, method)
                    names = list(inspect.signature(call).parameters)
                    right = {name: values[name][0] for name in names}
                    yield call, right
                    for name in names:
                        for value in values[name][1:]:
                            yield call, {**right, name: value}

    def test_by_position_and_by_name(self):
        for call, named in self.calls(some_castles()):
            self.assertEqual(by_position(call, named), outcome(call, **named))

    def test_nothing_changes(self):
        castles = some_castles()
        before = copy.deepcopy([told(castle) for castle in castles])
        for call, named in self.calls(castles):
            given = copy.deepcopy(list(named.values()))
            outcome(call, **named)
            self.assertEqual(list(named.values()), given)
        self.assertEqual([told(castle) for castle in castles], before)

    def test_the_same_again(self):
        first = [outcome(call, **named) for call, named in self.calls(some_castles())]
        turned = [outcome(call, **named) for call, named in reversed(list(self.calls(some_castles())))]
        self.assertEqual(turned[::-1], first)
        castles = some_castles()
        for call, named in self.calls(castles):
            self.assertEqual(outcome(call, **named), outcome(call, **named))
        self.assertEqual([outcome(call, **named) for call, named in self.calls(castles)], first)
