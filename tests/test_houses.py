"""Points 11 and 12, and the text of point 20."""

import inspect

from doorlots import houses
from doorlots.errors import InvalidDoors, InvalidHalls, Unreachable
from doorlots.houses import House, is_colour
from tests.helper import (
    NOT_COLOURS, NOT_INTEGERS, PATH_DOORS, SIXTEEN, Case, Odd, door_choices, line, path, sixteen, square,
)


def leads_everywhere(halls, doors):
    """The halls that are joined to hall 0, by repeated merging instead of a search."""
    reached = {0}
    for step in range(halls):
        for low, high, colour in doors:
            if low in reached or high in reached:
                reached |= {low, high}
    return reached


class Interface(Case):
    def test_defined_in_the_file(self):
        self.assertEqual((is_colour.__module__, House.__module__), ("doorlots.houses", "doorlots.houses"))
        self.assertIs(houses.House, House)

    def test_methods_are_defined_in_the_class(self):
        expected = {
            "colours": [], "through": ["hall", "colour"], "doors_at": ["hall"], "opened": ["door"], "shut": ["door"],
            "recoloured": ["old", "new"], "renumbered": ["order"],
        }
        for name, names in expected.items():
            self.assertEqual(list(inspect.signature(vars(House)[name]).parameters), ["self"] + names)
        for name in ("__init__", "__eq__", "__len__", "__repr__", "__str__"):
            self.assertIn(name, vars(House))

    def test_parameters(self):
        self.assertEqual(str(inspect.signature(is_colour)), "(value)")
        self.assertEqual(str(inspect.signature(House)), "(halls, doors=())")


class IsColour(Case):
    def test_example(self):
        self.check_same([is_colour("red"), is_colour("Red"), is_colour(""), is_colour(7)], [True, False, False, False])

    def test_colours(self):
        for value in ("a", "z", "ab", "zz", "red", "abcdef", "zzzzzz", "mnopqr", *"bcdefghijklmnopqrstuvwxy"):
            with self.subTest(value):
                self.check_returns(True, is_colour, value)

    def test_other_values(self):
        for at, value in enumerate(NOT_COLOURS):
            with self.subTest(at=at):
                self.check_returns(False, is_colour, value)
        self.check_returns(False, is_colour, square())

    def test_only_letters(self):
        for code in range(32, 127):
            self.check_same(is_colour(chr(code)), 97 <= code <= 122)
            self.check_same(is_colour("a" + chr(code)), 97 <= code <= 122)
            self.check_same(is_colour(chr(code) + "abcde"), 97 <= code <= 122)

    def test_six_and_seven_letters(self):
        self.check_returns(True, is_colour, "purple")
        self.check_returns(False, is_colour, "crimson")


class MakingHouses(Case):
    def test_examples(self):
        house = House(4, ((0, 1, "a"), (0, 2, "b"), (1, 3, "b"), (2, 3, "a")))
        self.check_same(
            [house.halls, house.doors[1], len(house), repr(house), house == House(4, house.doors)],
            [4, (0, 2, "b"), 4, "House(4 halls, 4 doors)", True])
        self.check_raises(InvalidDoors, "position", 1, House, 3, ((0, 1, "a"), (1, 2, "a")))
        self.check_raises(Unreachable, "hall", 2, House, 3, ((0, 1, "a"),))
        self.check_raises(InvalidHalls, "halls", 0, House, 0, None)

    def test_by_position_and_by_name(self):
        self.check_gives_house(3, PATH_DOORS, House, 3, PATH_DOORS)
        self.check_house(House(doors=PATH_DOORS, halls=3), 3, PATH_DOORS)
        self.check_house(House(3, doors=PATH_DOORS), 3, PATH_DOORS)

    def test_one_hall(self):
        self.check_house(House(1), 1, ())
        self.check_house(House(halls=1), 1, ())
        self.check_house(House(1, ()), 1, ())

    def test_attributes_are_set_at_once(self):
        self.assertLessEqual({"halls", "doors"}, set(vars(House(1))))

    def test_sixty_four_halls(self):
        house = line(64)
        self.check_same(house.halls, 64)
        self.check_same(len(house), 64)
        self.check_same(len(house.doors), 63)
        doors = (*house.doors, (63, 64, "b"))
        self.check_raises(InvalidHalls, "halls", 65, House, 65, doors)
        self.check_raises(InvalidDoors, "position", 63, House, 64, doors)

    def test_parallel_doors(self):
        self.check_house(House(2, ((0, 1, "a"), (0, 1, "b"))), 2, ((0, 1, "a"), (0, 1, "b")))

    def test_colours_of_six_and_seven_letters(self):
        self.check_house(House(2, ((0, 1, "purple"),)), 2, ((0, 1, "purple"),))
        self.check_raises(InvalidDoors, "position", 0, House, 2, ((0, 1, "crimson"),))

    def test_sixteen_and_seventeen_colours(self):
        house = sixteen()
        self.check_house(house, 2, house.doors)
        self.check_same(len(house.doors), 16)
        self.check_raises(InvalidDoors, "position", 16, House, 2, (*house.doors, (0, 1, "q")))
        doors = tuple((0, 1, colour) for colour in SIXTEEN) + ((1, 2, "q"), (1, 2, "r"), (9, 9, 9))
        self.check_raises(InvalidDoors, "position", 16, House, 3, doors)

    def test_more_doors_of_sixteen_colours(self):
        doors = tuple((0, 1, colour) for colour in SIXTEEN) + ((2, 3, "c"), (2, 3, "p"))
        self.check_raises(Unreachable, "hall", 2, House, 4, doors)
        self.check_raises(InvalidDoors, "position", 18, House, 4, (*doors, (2, 3, "q")))

    def test_later_doors_may_lead_back(self):
        doors = ((0, 3, "a"), (1, 2, "a"), (1, 3, "b"))
        self.check_house(House(4, doors), 4, doors)

    def test_the_argument_stays(self):
        doors = ((0, 1, "a"), (1, 2, "b"))
        house = House(3, doors)
        self.assertEqual(doors, PATH_DOORS)
        self.assertEqual(house.doors, PATH_DOORS)
        given = [[0, 1, "a"]]
        self.check_raises(InvalidDoors, "position", None, House, 2, given)
        self.assertEqual(given, [[0, 1, "a"]])


class WrongHalls(Case):
    def test_wrong_numbers(self):
        for halls in (0, -1, -64, 65, 66, 1000, 10 ** 39):
            with self.subTest(halls):
                self.check_raises(InvalidHalls, "halls", halls, House, halls)
                self.check_raises(InvalidHalls, "halls", halls, House, halls, ())

    def test_wrong_kinds(self):
        for at, halls in enumerate(NOT_INTEGERS):
            with self.subTest(at=at):
                self.check_raises(InvalidHalls, "halls", halls, House, halls)

    def test_halls_before_doors(self):
        for doors in (None, [], ((0, 0, 0),), ((0, 1, "a"), (0, 1, "a"))):
            self.check_raises(InvalidHalls, "halls", True, House, True, doors)
            self.check_raises(InvalidHalls, "halls", 65, House, 65, doors)


class WrongDoors(Case):
    def test_not_a_tuple(self):
        for doors in (None, True, 0, "", "ab", [], [(0, 1, "a")], {}, {(0, 1, "a"): 1}, Odd(), House(1)):
            self.check_raises(InvalidDoors, "position", None, House, 2, doors)

    def test_not_a_door(self):
        wrong = (
            None, True, 0, "", "01a", (), (0,), (0, 1), (0, 1, "a", "b"), [0, 1, "a"], {}, Odd(), House(1),
            (1, 0, "a"), (0, 0, "a"), (1, 1, "a"), (-1, 1, "a"), (0, 3, "a"), (3, 4, "a"), (0, 10 ** 39, "a"),
            ("a", 0, 1), (0, "1", "a"), ("0", 1, "a"), (None, 1, "a"), (0, None, "a"), (0, (1,), "a"), ([0], 1, "a"),
            (0, True, "a"), (False, 1, "a"), (False, True, "a"), (True, 2, "a"), (Odd(), 1, "a"), (0, Odd(), "a"),
        )
        for at, door in enumerate(wrong):
            with self.subTest(at=at):
                self.check_raises(InvalidDoors, "position", 0, House, 3, (door,))
                self.check_raises(InvalidDoors, "position", 2, House, 3, ((0, 1, "a"), (0, 2, "b"), door))

    def test_not_a_colour(self):
        for at, colour in enumerate(NOT_COLOURS):
            with self.subTest(at=at):
                self.check_raises(InvalidDoors, "position", 0, House, 2, ((0, 1, colour),))
                self.check_raises(InvalidDoors, "position", 1, House, 3, ((0, 1, "a"), (1, 2, colour)))

    def test_one_hall_has_no_doors(self):
        self.check_raises(InvalidDoors, "position", 0, House, 1, ((0, 1, "a"),))
        self.check_raises(InvalidDoors, "position", 0, House, 1, ((0, 0, "a"),))

    def test_not_ascending(self):
        self.check_raises(InvalidDoors, "position", 1, House, 2, ((0, 1, "b"), (0, 1, "a")))
        self.check_raises(InvalidDoors, "position", 1, House, 2, ((0, 1, "a"), (0, 1, "a")))
        self.check_raises(InvalidDoors, "position", 1, House, 3, ((1, 2, "a"), (0, 1, "b")))
        self.check_raises(InvalidDoors, "position", 1, House, 3, ((0, 2, "a"), (0, 1, "b")))
        self.check_raises(InvalidDoors, "position", 2, House, 3, ((0, 1, "b"), (1, 2, "a"), (0, 2, "c")))

    def test_two_doors_of_one_colour_at_a_hall(self):
        self.check_raises(InvalidDoors, "position", 1, House, 3, ((0, 1, "a"), (0, 2, "a")))
        self.check_raises(InvalidDoors, "position", 1, House, 3, ((0, 2, "a"), (1, 2, "a")))
        self.check_raises(InvalidDoors, "position", 1, House, 3, ((0, 1, "a"), (1, 2, "a")))
        self.check_raises(InvalidDoors, "position", 2, House, 4, ((0, 1, "a"), (1, 2, "b"), (2, 3, "b")))

    def test_the_first_wrong_door_counts(self):
        doors = ((0, 1, "a"), (0, 2, "a"), None, (0, 1, "B"))
        self.check_raises(InvalidDoors, "position", 1, House, 3, doors)
        self.check_raises(InvalidDoors, "position", 0, House, 3, (None, (0, 1, "a"), (0, 1, "a")))
        self.check_raises(InvalidDoors, "position", 2, House, 3, ((0, 1, "a"), (0, 2, "b"), (0, 2, "b"), [0]))

    def test_doors_before_unreachable(self):
        self.check_raises(InvalidDoors, "position", 1, House, 5, ((0, 1, "a"), (1, 2, "a")))
        self.check_raises(InvalidDoors, "position", None, House, 5, [])


class UnreachableHalls(Case):
    def test_least_hall(self):
        self.check_raises(Unreachable, "hall", 1, House, 2)
        self.check_raises(Unreachable, "hall", 1, House, 64)
        self.check_raises(Unreachable, "hall", 1, House, 4, ((0, 2, "a"), (1, 3, "a")))
        self.check_raises(Unreachable, "hall", 2, House, 4, ((0, 1, "a"), (2, 3, "a")))
        self.check_raises(Unreachable, "hall", 1, House, 3, ((1, 2, "a"),))
        self.check_raises(Unreachable, "hall", 63, House, 64, line(63).doors)

    def test_all_choices_of_doors(self):
        """Every set of doors between four halls in two colours, and between three halls in three colours."""
        made = 0
        for halls, colours in ((4, "ab"), (3, "abc")):
            for doors in door_choices(halls, colours):
                made += self.check_choice(halls, doors)
        self.assertGreater(made, 20)

    def check_choice(self, halls, doors):
        ends = []
        for position, (low, high, colour) in enumerate(doors):
            if (low, colour) in ends or (high, colour) in ends:
                with self.assertRaises(InvalidDoors) as caught:
                    House(halls, doors)
                self.check_same(caught.exception.position, position)
                return 0
            ends += [(low, colour), (high, colour)]
        missing = sorted(set(range(halls)) - leads_everywhere(halls, doors))
        if missing:
            with self.assertRaises(Unreachable) as caught:
                House(halls, doors)
            self.check_same(caught.exception.hall, missing[0])
            return 0
        self.check_house(House(halls, doors), halls, doors)
        return 1


class EqualityAndLength(Case):
    def check_equal(self, one, other, expected):
        self.assertIs(one == other, expected)
        self.assertIs(other == one, expected)
        self.assertIs(one != other, not expected)
        self.assertIs(other != one, not expected)

    def test_equal_houses(self):
        self.check_equal(square(), square(), True)
        self.check_equal(House(1), House(1, ()), True)
        house = path()
        self.check_equal(house, house, True)

    def test_other_houses(self):
        self.check_equal(square(), path(), False)
        self.check_equal(House(2, ((0, 1, "a"),)), House(2, ((0, 1, "b"),)), False)
        self.check_equal(House(2, ((0, 1, "a"),)), House(2, ((0, 1, "a"), (0, 1, "b"))), False)
        self.check_equal(House(1), House(2, ((0, 1, "a"),)), False)
        self.check_equal(path(), path().renumbered((2, 1, 0)), False)

    def test_never_equal_to_other_values(self):
        house = House(1)
        others = (None, True, 1, "house 1", "House(1 halls, 0 doors)", (), (1, ()), [1, ()], {"halls": 1, "doors": ()})
        for other in others:
            self.check_equal(house, other, False)

    def test_length_and_truth(self):
        for house, halls in ((House(1), 1), (path(), 3), (square(), 4), (sixteen(), 2), (line(64), 64)):
            self.check_same(len(house), halls)
            self.assertIs(bool(house), True)


class Texts(Case):
    def test_repr(self):
        self.check_same(repr(House(1)), "House(1 halls, 0 doors)")
        self.check_same(repr(House(2, ((0, 1, "red"),))), "House(2 halls, 1 doors)")
        self.check_same(repr(path()), "House(3 halls, 2 doors)")
        self.check_same(repr(square()), "House(4 halls, 4 doors)")
        self.check_same(repr(sixteen()), "House(2 halls, 16 doors)")
        self.check_same(repr(line(64)), "House(64 halls, 63 doors)")

    def test_str(self):
        self.check_same(str(House(2, ((0, 1, "red"),))), "house 2\n0 1 red")
        self.check_same(str(House(1)), "house 1")
        self.check_same(str(path()), "house 3\n0 1 a\n1 2 b")
        self.check_same(str(square()), "house 4\n0 1 a\n0 2 b\n1 3 b\n2 3 a")
        self.check_same(str(House(2, ((0, 1, "blue"), (0, 1, "red")))), "house 2\n0 1 blue\n0 1 red")

    def test_str_of_many_halls(self):
        lines = str(line(64)).split("\n")
        self.assertEqual(len(lines), 64)
        self.assertEqual(lines[:2] + lines[-2:], ["house 64", "0 1 a", "61 62 b", "62 63 a"])
