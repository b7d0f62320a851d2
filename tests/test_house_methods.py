"""Points 13 to 19."""

import copy
import itertools

from doorlots.errors import (
    ColourTaken, DoorTaken, InvalidColour, InvalidDoor, InvalidHall, InvalidOrder, NoDoor, TooManyColours, UnknownColour,
    Unreachable,
)
from doorlots.houses import House
from tests.helper import (
    NOT_COLOURS, NOT_INTEGERS, PATH_DOORS, SIXTEEN, SQUARE_DOORS, Case, Odd, doors_between, line, path, pushed, sixteen,
    small_houses, square, state,
)

WRONG_DOORS = (
    None, True, 0, "", "01a", (), (0,), (0, 1), (0, 1, "a", "a"), [], [0, 1, "a"], {}, Odd(), House(1),
    (1, 0, "a"), (0, 0, "a"), (-1, 1, "a"), (0, 4, "a"), (4, 5, "a"), ("a", 0, 1), (0, "1", "a"), (None, 1, "a"),
    (False, 1, "a"), (0, True, "a"), (False, True, "a"), (True, 3, "b"), ([0], 1, "a"), (0, [1], "a"),
    (0, 1, ["a"]), (0, 1, ("a",)), (Odd(), 1, "a"), (0, 1, Odd()), (0, 10 ** 39, "a"),
)


class Colours(Case):
    def test_example(self):
        self.check_returns(("blue", "red"), House(3, ((0, 1, "red"), (1, 2, "blue"))).colours)

    def test_colours(self):
        self.check_returns((), House(1).colours)
        self.check_returns(("a", "b"), square().colours)
        self.check_returns(("a", "b"), line(64).colours)
        self.check_returns(SIXTEEN, sixteen().colours)
        self.check_returns(("a", "aa", "ab", "b"), House(2, tuple((0, 1, c) for c in ("a", "aa", "ab", "b"))).colours)

    def test_ascending_whatever_the_doors(self):
        self.check_returns(("a", "m", "z"), House(4, ((0, 1, "z"), (1, 2, "m"), (2, 3, "a"))).colours)


class Through(Case):
    def test_examples(self):
        house = path()
        self.check_same([house.through(1, "a"), house.through(0, "b"), house.through(2, "z")], [0, 0, 2])
        self.check_raises(InvalidHall, "hall", True, house.through, True, "A")

    def test_both_ways_and_staying(self):
        house = path()
        expected = {(0, "a"): 1, (1, "a"): 0, (2, "a"): 2, (0, "b"): 0, (1, "b"): 2, (2, "b"): 1}
        for (hall, colour), goal in expected.items():
            self.check_returns(goal, house.through, hall, colour)

    def test_colour_of_another_house(self):
        self.check_returns(0, House(1).through, 0, "a")
        self.check_returns(63, line(64).through, 63, "zzzzzz")
        self.check_returns(3, square().through, 3, "c")

    def test_parallel_doors(self):
        for colour in SIXTEEN:
            self.check_returns(1, sixteen().through, 0, colour)
            self.check_returns(0, sixteen().through, 1, colour)

    def test_sixty_four_halls(self):
        house = line(64)
        self.check_returns(62, house.through, 63, "a")
        self.check_returns(63, house.through, 63, "b")
        self.check_raises(InvalidHall, "hall", 64, house.through, 64, "a")

    def test_wrong_halls(self):
        for at, hall in enumerate((-1, 3, 4, 10 ** 39, *NOT_INTEGERS)):
            with self.subTest(at=at):
                self.check_raises(InvalidHall, "hall", hall, path().through, hall, "a")
        self.check_raises(InvalidHall, "hall", 1, House(1).through, 1, "a")

    def test_wrong_colours(self):
        for at, colour in enumerate(NOT_COLOURS):
            with self.subTest(at=at):
                self.check_raises(InvalidColour, "colour", colour, path().through, 0, colour)

    def test_hall_before_colour(self):
        for hall in (-1, 3, True, None, [0]):
            for colour in ("A", "", None, ["a"]):
                self.check_raises(InvalidHall, "hall", hall, path().through, hall, colour)

    def test_small_houses(self):
        for house in small_houses():
            for hall in range(house.halls):
                for colour in "abcd":
                    self.check_same(house.through(hall, colour), pushed(house, hall, colour))


class DoorsAt(Case):
    def test_example(self):
        self.check_returns((("a", 0), ("b", 2)), path().doors_at, 1)

    def test_doors(self):
        self.check_returns((), House(1).doors_at, 0)
        self.check_returns((("a", 1),), path().doors_at, 0)
        self.check_returns((("b", 1),), path().doors_at, 2)
        self.check_returns(tuple((colour, 1) for colour in SIXTEEN), sixteen().doors_at, 0)
        self.check_returns(tuple((colour, 0) for colour in SIXTEEN), sixteen().doors_at, 1)
        self.check_returns((("a", 62),), line(64).doors_at, 63)

    def test_ascending_by_colour(self):
        house = House(4, ((0, 1, "c"), (0, 2, "b"), (0, 3, "a")))
        self.check_returns((("a", 3), ("b", 2), ("c", 1)), house.doors_at, 0)

    def test_wrong_halls(self):
        for at, hall in enumerate((-1, 3, 10 ** 39, *NOT_INTEGERS)):
            with self.subTest(at=at):
                self.check_raises(InvalidHall, "hall", hall, path().doors_at, hall)

    def test_small_houses(self):
        for house in small_houses():
            for hall in range(house.halls):
                moves = [(colour, pushed(house, hall, colour)) for colour in "abc"]
                self.check_same(house.doors_at(hall), tuple(move for move in moves if move[1] != hall))


class Opened(Case):
    def test_examples(self):
        self.check_gives_house(3, ((0, 1, "a"), (0, 2, "c"), (1, 2, "b")), path().opened, (0, 2, "c"))
        self.check_raises(DoorTaken, "hall", 0, path().opened, (0, 2, "a"))

    def test_first_last_and_parallel(self):
        self.check_gives_house(3, ((0, 1, "a"), (0, 1, "c"), (1, 2, "b")), path().opened, (0, 1, "c"))
        self.check_gives_house(3, (*PATH_DOORS, (1, 2, "c")), path().opened, (1, 2, "c"))
        self.check_gives_house(2, ((0, 1, "a"), (0, 1, "b")), House(2, ((0, 1, "b"),)).opened, (0, 1, "a"))
        self.check_gives_house(2, ((0, 1, "b"), (0, 1, "purple")), House(2, ((0, 1, "b"),)).opened, (0, 1, "purple"))

    def test_a_colour_of_the_house(self):
        doors = ((0, 1, "a"), (1, 2, "b"), (2, 3, "c"))
        self.check_gives_house(4, ((0, 1, "a"), (1, 2, "b"), (2, 3, "a"), (2, 3, "c")), House(4, doors).opened,
                               (2, 3, "a"))

    def test_wrong_doors(self):
        for at, door in enumerate(WRONG_DOORS):
            with self.subTest(at=at):
                self.check_raises(InvalidDoor, "door", door, square().opened, door)
        for at, colour in enumerate(NOT_COLOURS):
            with self.subTest(colour=at):
                door = (0, 3, colour)
                self.check_raises(InvalidDoor, "door", door, square().opened, door)
        for house in (House(1), sixteen()):
            self.check_raises(InvalidDoor, "door", (0, 2, "q"), house.opened, (0, 2, "q"))

    def test_taken_at_the_lesser_hall(self):
        self.check_raises(DoorTaken, "hall", 0, path().opened, (0, 1, "a"))
        self.check_raises(DoorTaken, "hall", 1, path().opened, (0, 1, "b"))
        self.check_raises(DoorTaken, "hall", 2, path().opened, (0, 2, "b"))
        self.check_raises(DoorTaken, "hall", 1, path().opened, (1, 2, "a"))
        self.check_raises(DoorTaken, "hall", 1, path().opened, (1, 2, "b"))
        self.check_raises(DoorTaken, "hall", 0, square().opened, (0, 3, "a"))

    def test_invalid_before_taken(self):
        self.check_raises(InvalidDoor, "door", (0, 3, "a"), path().opened, (0, 3, "a"))
        self.check_raises(InvalidDoor, "door", (1, 0, "a"), path().opened, (1, 0, "a"))
        self.check_raises(InvalidDoor, "door", (0, True, "a"), path().opened, (0, True, "a"))

    def test_seventeen_colours(self):
        house = sixteen()
        self.check_raises(TooManyColours, "many", 17, house.opened, (0, 1, "q"))
        self.check_raises(InvalidDoor, "door", (0, 1, "Q"), house.opened, (0, 1, "Q"))
        self.check_raises(DoorTaken, "hall", 0, house.opened, (0, 1, "p"))
        fifteen = house.shut((0, 1, "p"))
        self.check_gives_house(2, (*fifteen.doors, (0, 1, "q")), fifteen.opened, (0, 1, "q"))

    def test_one_more_door_of_sixteen_colours(self):
        doors = (*sixteen().doors[1:], (1, 2, "a"), (2, 3, "b"))
        house = House(4, doors)
        self.check_gives_house(4, (*doors, (2, 3, "c")), house.opened, (2, 3, "c"))
        self.check_raises(TooManyColours, "many", 17, house.opened, (2, 3, "q"))

    def test_small_houses(self):
        for house in small_houses():
            for door in doors_between(house.halls, "abc"):
                low, high, colour = door
                taken = [hall for hall in (low, high) if pushed(house, hall, colour) != hall]
                if taken:
                    with self.assertRaises(DoorTaken) as caught:
                        house.opened(door)
                    self.check_same(caught.exception.hall, taken[0])
                else:
                    self.check_house(house.opened(door), house.halls, tuple(sorted(house.doors + (door,))))


class Shut(Case):
    def test_examples(self):
        self.check_gives_house(4, ((0, 2, "b"), (1, 3, "b"), (2, 3, "a")), square().shut, (0, 1, "a"))
        self.check_raises(Unreachable, "hall", 1, path().shut, (0, 1, "a"))

    def test_each_door(self):
        for door in SQUARE_DOORS:
            left = tuple(other for other in SQUARE_DOORS if other != door)
            self.check_gives_house(4, left, square().shut, door)

    def test_parallel_doors(self):
        house = House(2, ((0, 1, "a"), (0, 1, "b")))
        self.check_gives_house(2, ((0, 1, "b"),), house.shut, (0, 1, "a"))
        self.check_gives_house(2, ((0, 1, "a"),), house.shut, (0, 1, "b"))

    def test_unreachable(self):
        self.check_raises(Unreachable, "hall", 2, path().shut, (1, 2, "b"))
        self.check_raises(Unreachable, "hall", 1, House(2, ((0, 1, "a"),)).shut, (0, 1, "a"))
        self.check_raises(Unreachable, "hall", 1, House(4, ((0, 3, "a"), (1, 2, "a"), (1, 3, "b"))).shut, (1, 3, "b"))
        self.check_raises(Unreachable, "hall", 63, line(64).shut, (62, 63, "a"))

    def test_wrong_doors(self):
        for at, door in enumerate(WRONG_DOORS):
            with self.subTest(at=at):
                self.check_raises(NoDoor, "door", door, square().shut, door)
        for at, colour in enumerate(NOT_COLOURS):
            with self.subTest(colour=at):
                door = (0, 1, colour)
                self.check_raises(NoDoor, "door", door, square().shut, door)

    def test_other_doors(self):
        for door in ((0, 1, "b"), (0, 3, "a"), (1, 2, "a"), (0, 1, "z"), (2, 3, "b")):
            self.check_raises(NoDoor, "door", door, square().shut, door)
        self.check_raises(NoDoor, "door", (0, 1, "a"), House(1).shut, (0, 1, "a"))

    def test_true_and_false_are_not_halls(self):
        house = House(2, ((0, 1, "a"),))
        for door in ((False, 1, "a"), (0, True, "a"), (False, True, "a")):
            self.assertEqual(door, (0, 1, "a"))
            self.check_raises(NoDoor, "door", door, house.shut, door)

    def test_opened_and_shut_again(self):
        self.check_house(square().opened((0, 3, "c")).shut((0, 3, "c")), 4, SQUARE_DOORS)

    def test_small_houses(self):
        for house in small_houses():
            for door in house.doors:
                left = tuple(other for other in house.doors if other != door)
                try:
                    self.check_house(house.shut(door), house.halls, left)
                except Unreachable as error:
                    with self.assertRaises(Unreachable) as caught:
                        House(house.halls, left)
                    self.check_same(error.hall, caught.exception.hall)


class Recoloured(Case):
    def test_examples(self):
        self.check_gives_house(3, ((0, 1, "z"), (1, 2, "b")), path().recoloured, "a", "z")
        self.check_raises(ColourTaken, "colour", "b", path().recoloured, "a", "b")

    def test_all_doors_of_the_colour(self):
        self.check_gives_house(4, ((0, 1, "red"), (0, 2, "b"), (1, 3, "b"), (2, 3, "red")), square().recoloured, "a",
                               "red")
        self.check_gives_house(4, ((0, 1, "a"), (0, 2, "c"), (1, 3, "c"), (2, 3, "a")), square().recoloured, "b", "c")

    def test_parallel_doors_are_put_in_order(self):
        house = House(2, ((0, 1, "a"), (0, 1, "b")))
        self.check_gives_house(2, ((0, 1, "b"), (0, 1, "c")), house.recoloured, "a", "c")
        self.check_gives_house(2, ((0, 1, "a"), (0, 1, "aa")), house.recoloured, "b", "aa")

    def test_sixteen_colours(self):
        left = tuple((0, 1, colour) for colour in SIXTEEN[1:])
        self.check_gives_house(2, (*left, (0, 1, "zzzzzz")), sixteen().recoloured, "a", "zzzzzz")

    def test_unknown_old(self):
        for at, old in enumerate(("c", "z", "aa", *NOT_COLOURS)):
            with self.subTest(at=at):
                self.check_raises(UnknownColour, "colour", old, path().recoloured, old, "z")
        self.check_raises(UnknownColour, "colour", "a", House(1).recoloured, "a", "b")

    def test_invalid_new(self):
        for at, new in enumerate(NOT_COLOURS):
            with self.subTest(at=at):
                self.check_raises(InvalidColour, "colour", new, path().recoloured, "a", new)

    def test_taken_new(self):
        self.check_raises(ColourTaken, "colour", "a", path().recoloured, "b", "a")
        self.check_raises(ColourTaken, "colour", "a", path().recoloured, "a", "a")

    def test_old_before_new(self):
        for new in ("b", "c", "B", "", None, ["a"]):
            self.check_raises(UnknownColour, "colour", "c", path().recoloured, "c", new)
            self.check_raises(UnknownColour, "colour", None, path().recoloured, None, new)


class Renumbered(Case):
    def test_example(self):
        self.check_gives_house(3, ((0, 2, "b"), (1, 2, "a")), path().renumbered, (2, 0, 1))

    def test_ordinary_orders(self):
        self.check_gives_house(1, (), House(1).renumbered, (0,))
        self.check_gives_house(3, PATH_DOORS, path().renumbered, (0, 1, 2))
        self.check_gives_house(3, ((0, 1, "b"), (1, 2, "a")), path().renumbered, (2, 1, 0))
        self.check_gives_house(3, ((0, 1, "b"), (0, 2, "a")), path().renumbered, (1, 2, 0))
        self.check_gives_house(2, ((0, 1, "a"), (0, 1, "b")), House(2, ((0, 1, "a"), (0, 1, "b"))).renumbered, (1, 0))

    def test_sixty_four_halls(self):
        house = line(64)
        turned = house.renumbered(tuple(reversed(range(64))))
        self.check_house(turned, 64, house.doors)
        moved = house.renumbered((*range(1, 64), 0))
        self.check_same(moved.doors_at(63), (("a", 0),))

    def test_invalid_orders(self):
        wrong = (
            None, True, 0, "012", "", [], [0, 1, 2], {}, {0: 0, 1: 1, 2: 2}, Odd(), House(1), (), (0,), (0, 1),
            (0, 1, 2, 3), (0, 1, 1), (0, 0, 0), (1, 2, 3), (-1, 0, 1), (0, 1, -1), (0, 1, 3), (0, 1, 2, 2), (0, 1, 2, 0),
            (0, 1, "2"), ("0", "1", "2"), (0, 1, None), (0, 1, [2]), (0, 1, (2,)), ((0, 1, 2),), (0, 1, Odd()),
            (False, 1, 2), (0, True, 2), (False, True, 2), (0, 1, 10 ** 39), tuple(range(64)),
        )
        for at, order in enumerate(wrong):
            with self.subTest(at=at):
                self.check_raises(InvalidOrder, "order", order, path().renumbered, order)
        self.check_raises(InvalidOrder, "order", (False,), House(1).renumbered, (False,))
        self.check_raises(InvalidOrder, "order", (), House(1).renumbered, ())

    def test_small_houses(self):
        for house in small_houses():
            for order in itertools.permutations(range(house.halls)):
                self.check_moved(house, order, house.renumbered(order))

    def check_moved(self, house, order, moved):
        self.check_house(moved, house.halls, tuple(sorted(moved.doors)))
        self.assertEqual(len(moved.doors), len(house.doors))
        for number, hall in enumerate(order):
            for colour in "abc":
                self.assertEqual(order[moved.through(number, colour)], house.through(hall, colour))


class NothingChanges(Case):
    def calls(self, house):
        """Each method with valid arguments and with wrong ones."""
        return [
            (house.colours,), (house.through, 1, "a"), (house.through, 9, "a"), (house.through, 0, "A"),
            (house.doors_at, 1), (house.doors_at, [0]), (house.opened, (0, 3, "c")), (house.opened, (0, 3, "a")),
            (house.opened, [0, 3, "c"]), (house.opened, (0, 3, ["c"])), (house.shut, (0, 1, "a")),
            (house.shut, [0, 1, "a"]), (house.shut, (0, [1], "a")), (house.recoloured, "a", "c"),
            (house.recoloured, "a", "b"), (house.recoloured, ["a"], ["c"]), (house.recoloured, "a", ["c"]),
            (house.renumbered, (3, 2, 1, 0)), (house.renumbered, [3, 2, 1, 0]), (house.renumbered, (3, 2, [1], 0)),
            (house.__len__,), (house.__repr__,), (house.__str__,), (house.__eq__, square()), (house.__eq__, [4]),
        ]

    def outcome(self, call, *args):
        try:
            return call(*args)
        except (ValueError, RuntimeError) as error:
            return (type(error), vars(error))

    def test_house_and_arguments_stay(self):
        house = square()
        before = state(house)
        for call, *args in self.calls(house):
            with self.subTest(call.__name__, args=args):
                given = copy.deepcopy(args)
                first = self.outcome(call, *args)
                self.assertEqual(state(house), before)
                self.assertEqual(args, given)
                self.assertEqual(self.outcome(call, *args), first)

    def test_results_are_houses_of_their_own(self):
        house = square()
        before = state(house)
        larger = house.opened((0, 3, "c"))
        smaller = larger.shut((0, 1, "a"))
        smaller.recoloured("b", "z").renumbered((1, 0, 3, 2)).opened((0, 1, "y"))
        self.assertEqual(state(house), before)
        self.check_house(larger, 4, ((0, 1, "a"), (0, 2, "b"), (0, 3, "c"), (1, 3, "b"), (2, 3, "a")))
        self.check_house(smaller, 4, ((0, 2, "b"), (0, 3, "c"), (1, 3, "b"), (2, 3, "a")))

    def test_results_may_be_arguments(self):
        house = path()
        self.assertEqual(House(house.halls, house.doors), house)
        self.assertEqual(house.through(house.through(0, "a"), house.colours()[1]), 2)
        self.assertEqual(house.recoloured(house.colours()[0], "z").colours(), ("b", "z"))
        self.assertEqual(len(house.opened((0, 2, house.doors_at(1)[0][0] + "x"))), 3)
        self.check_raises(NoDoor, "door", house, house.shut, house)
