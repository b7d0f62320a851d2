"""Point 51."""

import itertools

from doorlots.changes import freeing_doors
from doorlots.errors import InvalidHouse, TooManyHalls, UnknownColour, Unreachable
from doorlots.houses import House
from doorlots.splits import is_split
from tests.helper import (
    NOT_COLOURS, SIXTEEN, Case, all_houses, cube, edge, four, groupings, line, path, random_crosses, random_house,
    random_houses, sixteen, square,
)


def are_free(house, one, other):
    """Whether some split has the colours in different lots, by trying all groupings."""
    return any(one in lot and other not in lot for grouping in groupings(house.colours()) for lot in grouping
               if is_split(house, grouping))


def freeing(house, one, other):
    found = []
    for door in house.doors:
        try:
            smaller = house.shut(door)
        except Unreachable:
            continue
        if one in smaller.colours() and other in smaller.colours() and are_free(smaller, one, other):
            found.append(door)
    return tuple(found)


class FreeingDoors(Case):
    def test_examples(self):
        self.check_returns(((0, 3, "c"),), freeing_doors, square().opened((0, 3, "c")), "a", "b")
        self.check_returns((), freeing_doors, square(), "a", "b")

    def test_ordinary_houses(self):
        self.check_returns(((0, 3, "c"),), freeing_doors, square().opened((0, 3, "c")), "b", "a")
        self.check_returns(((1, 2, "z"),), freeing_doors, square().opened((1, 2, "z")), "a", "b")
        self.check_returns((), freeing_doors, square().opened((0, 3, "c")).opened((1, 2, "c")), "a", "b")
        self.check_returns((), freeing_doors, four(), "a", "b")

    def test_doors_whose_loss_cuts_off_halls(self):
        self.check_returns((), freeing_doors, path(), "a", "b")
        tail = House(5, (*square().doors, (3, 4, "c")))
        self.check_returns((), freeing_doors, tail, "a", "b")
        self.check_returns((), freeing_doors, line(16), "a", "b")

    def test_doors_that_are_the_last_ones_of_a_colour(self):
        house = square().opened((0, 3, "c"))
        self.check_returns((), freeing_doors, house, "a", "c")
        self.check_returns((), freeing_doors, house, "c", "b")
        both = House(2, ((0, 1, "a"), (0, 1, "b")))
        self.check_returns((), freeing_doors, both, "a", "b")

    def test_parallel_doors(self):
        twice = House(4, ((0, 1, "a"), (0, 1, "c"), (0, 2, "b"), (1, 3, "b"), (2, 3, "a")))
        self.check_returns(((0, 1, "c"),), freeing_doors, twice, "a", "b")
        self.check_returns((), freeing_doors, twice, "a", "c")
        self.check_returns(((0, 1, "a"),), freeing_doors, square().recoloured("a", "c").opened((0, 1, "a")), "c", "b")

    def test_colours_that_are_free_already(self):
        house = House(4, ((0, 1, "a"), (0, 1, "c"), (0, 2, "b"), (1, 3, "b"), (2, 3, "a"), (2, 3, "c")))
        self.check_returns((), freeing_doors, house, "a", "b")
        self.check_returns((), freeing_doors, cube(4), "d", "a")

    def test_all_groupings(self):
        houses = [four(), cube(3).opened((0, 7, "d")), cube(3), *all_houses(3, "abc"), *all_houses(4, "ab"),
                  *list(all_houses(4, "abc"))[::3], *random_houses(20)]
        for house in houses:
            for one, other in itertools.combinations(house.colours()[:3], 2):
                self.check_same(freeing_doors(house, one, other), freeing(house, one, other))

    def test_crosses_with_one_more_door(self):
        found = 0
        for house in random_crosses(24):
            if house.halls <= 16:
                larger = house.opened((0, house.halls - 1, "zz"))
                one, other = house.colours()[0], house.colours()[-1]
                if are_free(house, one, other):
                    self.assertIn((0, house.halls - 1, "zz"), freeing_doors(larger, one, other))
                    found += 1
        self.assertGreater(found, 3)

    def test_sixteen_halls_and_sixteen_colours(self):
        house = random_house(3, 16, SIXTEEN, 120)
        self.check_returns((), freeing_doors, house, "a", "p")
        self.check_returns(((0, 15, "z"),), freeing_doors, cube(4).opened((0, 15, "z")), "a", "d")

    def test_seventeen_halls(self):
        self.check_raises(TooManyHalls, "many", 17, freeing_doors, line(17), "a", "b")
        self.check_raises(TooManyHalls, "many", 64, freeing_doors, cube(6), "a", "b")


class WrongArguments(Case):
    def test_wrong_houses(self):
        self.check_wrong_houses(freeing_doors, "a", "b")

    def test_unknown_colours(self):
        for at, colour in enumerate(("c", "z", "aa", *NOT_COLOURS)):
            with self.subTest(at=at):
                self.check_raises(UnknownColour, "colour", colour, freeing_doors, square(), colour, "b")
                self.check_raises(UnknownColour, "colour", colour, freeing_doors, square(), "a", colour)
                self.check_raises(UnknownColour, "colour", colour, freeing_doors, square(), colour, colour)
        self.check_raises(UnknownColour, "colour", "a", freeing_doors, square(), "a", "a")
        self.check_raises(UnknownColour, "colour", "a", freeing_doors, House(1), "a", "b")
        self.check_raises(UnknownColour, "colour", "b", freeing_doors, edge("a"), "a", "b")

    def test_order_of_errors(self):
        self.check_order(
            freeing_doors, (square(), 4, InvalidHouse, "house", 4), ("a", "c", UnknownColour, "colour", "c"),
            ("b", True, UnknownColour, "colour", True))
        self.check_raises(TooManyHalls, "many", 17, freeing_doors, line(17), "z", None)
        self.check_raises(TooManyHalls, "many", 64, freeing_doors, line(64), None, "a")
        self.check_raises(UnknownColour, "colour", "z", freeing_doors, line(16), "z", None)
        self.check_raises(UnknownColour, "colour", "p", freeing_doors, sixteen().shut((0, 1, "p")), "p", "p")
