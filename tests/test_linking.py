"""Points 29 to 31, and the links of point 10."""

import itertools

from doorlots.distances import distance
from doorlots.errors import InvalidHouse, UnknownColour
from doorlots.houses import House
from doorlots.linking import corner_link, links, stretch_link
from tests.helper import (
    NOT_COLOURS, PATH_DOORS, SIXTEEN, Case, cube, four, line, path, pushed, random_house, random_houses, sixteen,
    small_houses, square,
)

TWO = (corner_link, stretch_link)


def three():
    """Four halls in a line with three colours."""
    return House(4, ((0, 1, "a"), (1, 2, "b"), (2, 3, "c")))


def has_corner(house, hall, first, second):
    """The words of point 10 for one pair."""
    goal = pushed(house, hall, first)
    if goal == hall:
        return False
    here, there = pushed(house, hall, second) != hall, pushed(house, goal, second) != goal
    if here and there:
        return pushed(house, goal, second) != pushed(house, pushed(house, hall, second), first)
    return here != there


def corners(house, one, other):
    halls = range(house.halls)
    return [hall for hall in halls if has_corner(house, hall, one, other) or has_corner(house, hall, other, one)]


def stretches(house, one, other):
    """All pairs of doors with a stretch link in ascending order, whichever ends are called P, Q, R and S."""
    found = []
    for door, other_door in itertools.product(house.doors, house.doors):
        if (door[2], other_door[2]) == (one, other):
            ways = set()
            for (p, q), (r, s) in itertools.product((door[:2], door[1::-1]), (other_door[:2], other_door[1::-1])):
                straight = distance(house, p, r) + distance(house, q, s)
                ways.add(straight != distance(house, p, s) + distance(house, q, r))
            if ways == {True}:
                found.append((door, other_door))
            assert len(ways) == 1
    return sorted(found)


def some_houses():
    return [House(1), four(), three(), sixteen(), line(12), cube(3), *small_houses(), *random_houses(80)]


class CornerLink(Case):
    def test_examples(self):
        self.check_returns(0, corner_link, three(), "a", "b")
        self.check_returns(1, corner_link, three(), "b", "c")
        self.check_returns(None, corner_link, three(), "a", "c")
        house = House(2, ((0, 1, "a"), (0, 1, "b")))
        self.check_raises(UnknownColour, "colour", "a", corner_link, house, "a", "a")

    def test_no_corner(self):
        self.check_returns(None, corner_link, square(), "a", "b")
        for one, other in itertools.permutations("abc", 2):
            self.check_returns(None, corner_link, four(), one, other)
        for one, other in itertools.permutations("abcdef", 2):
            self.check_returns(None, corner_link, cube(6), one, other)

    def test_parallel_doors_have_no_corner(self):
        for one, other in itertools.permutations(SIXTEEN, 2):
            self.check_returns(None, corner_link, sixteen(), one, other)

    def test_a_door_at_both_halls_that_leads_elsewhere(self):
        doors = ((0, 1, "a"), (0, 2, "b"), (1, 3, "b"), (2, 4, "a"), (3, 5, "a"), (4, 5, "b"))
        house = House(6, doors)
        self.assertEqual(corners(house, "a", "b"), [0, 1, 2, 3, 4, 5])
        self.check_returns(0, corner_link, house, "a", "b")

    def test_a_corner_by_the_second_pair_only(self):
        """At hall 3 only the pair (b, a) has a corner link, and hall 3 is made the least hall."""
        house = House(4, ((0, 1, "c"), (1, 2, "a"), (2, 3, "b")))
        self.assertEqual([has_corner(house, 3, "a", "b"), has_corner(house, 3, "b", "a")], [False, True])
        turned = house.renumbered((3, 2, 1, 0))
        self.check_returns(0, corner_link, turned, "a", "b")
        self.check_returns(0, corner_link, turned, "b", "a")

    def test_the_least_hall(self):
        house = House(5, ((0, 1, "c"), (1, 2, "d"), (2, 3, "a"), (3, 4, "b")))
        self.check_returns(2, corner_link, house, "a", "b")
        self.check_returns(2, corner_link, house, "b", "a")
        house = line(64)
        self.check_returns(0, corner_link, house, "b", "a")

    def test_all_colours(self):
        for house in some_houses():
            for one, other in itertools.permutations(house.colours(), 2):
                found = corners(house, one, other)
                self.check_same(corner_link(house, one, other), found[0] if found else None)


class StretchLink(Case):
    def test_examples(self):
        self.check_same(
            [corner_link(four(), "b", "a"), stretch_link(four(), "b", "a")], [None, ((0, 2, "b"), (0, 1, "a"))])
        self.check_returns(((0, 2, "b"), (0, 1, "a")), stretch_link, four(), "b", "a")
        self.check_returns(None, stretch_link, House(3, ((0, 1, "a"), (1, 2, "b"))), "a", "b")

    def test_no_stretch(self):
        self.check_returns(None, stretch_link, square(), "b", "a")
        self.check_returns(None, stretch_link, line(64), "a", "b")
        self.check_returns(None, stretch_link, cube(6), "f", "a")

    def test_parallel_doors(self):
        self.check_returns(((0, 1, "a"), (0, 1, "b")), stretch_link, sixteen(), "a", "b")
        self.check_returns(((0, 1, "p"), (0, 1, "c")), stretch_link, sixteen(), "p", "c")

    def test_the_door_of_the_first_colour_stands_first(self):
        self.check_returns(((0, 1, "a"), (0, 2, "b")), stretch_link, four(), "a", "b")
        self.check_returns(((0, 3, "c"), (0, 1, "a")), stretch_link, four(), "c", "a")

    def test_a_ring_of_six(self):
        """In a ring of six halls only opposite doors have a stretch link."""
        ring = House(6, ((0, 1, "a"), (0, 5, "f"), (1, 2, "b"), (2, 3, "c"), (3, 4, "d"), (4, 5, "e")))
        self.check_returns(((0, 1, "a"), (3, 4, "d")), stretch_link, ring, "a", "d")
        self.check_returns(((4, 5, "e"), (1, 2, "b")), stretch_link, ring, "e", "b")
        self.check_returns(None, stretch_link, ring, "a", "c")
        self.check_returns(None, stretch_link, ring, "f", "a")

    def test_all_colours(self):
        for house in some_houses():
            for one, other in itertools.permutations(house.colours(), 2):
                found = stretches(house, one, other)
                self.check_same(stretch_link(house, one, other), found[0] if found else None)


class Links(Case):
    def test_example(self):
        self.check_returns((("a", "b"), ("b", "c")), links, three())

    def test_ordinary_houses(self):
        self.check_returns((), links, House(1))
        self.check_returns((), links, House(2, ((0, 1, "a"),)))
        self.check_returns((), links, square())
        self.check_returns((), links, cube(6))
        self.check_returns((("a", "b"),), links, path())
        self.check_returns((("a", "b"),), links, line(64))
        self.check_returns((("a", "b"), ("a", "c"), ("b", "c")), links, four())
        self.check_returns(tuple(itertools.combinations(SIXTEEN, 2)), links, sixteen())

    def test_colours_in_ascending_order(self):
        house = House(4, ((0, 1, "z"), (1, 2, "aa"), (2, 3, "b")))
        self.check_returns((("aa", "b"), ("aa", "z")), links, house)

    def test_many_halls_and_colours(self):
        house = random_house(5, 64, SIXTEEN, 400)
        found = links(house)
        for one, other in itertools.combinations(SIXTEEN, 2):
            linked = corner_link(house, one, other) is not None or stretch_link(house, one, other) is not None
            self.assertEqual((one, other) in found, linked)

    def test_all_colours(self):
        for house in some_houses():
            pairs = itertools.combinations(house.colours(), 2)
            expected = [pair for pair in pairs if corners(house, *pair) or stretches(house, *pair)]
            self.check_returns(tuple(expected), links, house)

    def test_wrong_houses(self):
        self.check_wrong_houses(links)


class WrongArguments(Case):
    def test_wrong_houses(self):
        for call in TWO:
            self.check_wrong_houses(call, "a", "b")

    def test_unknown_colours(self):
        for call in TWO:
            for at, colour in enumerate(("c", "z", "aa", "purple", *NOT_COLOURS)):
                with self.subTest(call.__name__, at=at):
                    self.check_raises(UnknownColour, "colour", colour, call, path(), colour, "b")
                    self.check_raises(UnknownColour, "colour", colour, call, path(), "a", colour)
                    self.check_raises(UnknownColour, "colour", colour, call, path(), colour, colour)

    def test_two_colours_that_are_the_same_one(self):
        for call in TWO:
            self.check_raises(UnknownColour, "colour", "b", call, path(), "b", "b")
            self.check_raises(UnknownColour, "colour", "p", call, sixteen(), "p", "p")
            self.check_raises(UnknownColour, "colour", "a", call, House(2, ((0, 1, "a"),)), "a", "a")

    def test_a_house_without_colours(self):
        for call in TWO:
            self.check_raises(UnknownColour, "colour", "a", call, House(1), "a", "b")

    def test_order_of_errors(self):
        for call in TWO:
            self.check_order(
                call, (path(), PATH_DOORS, InvalidHouse, "house", PATH_DOORS), ("a", "c", UnknownColour, "colour", "c"),
                ("b", "d", UnknownColour, "colour", "d"))
            self.check_raises(UnknownColour, "colour", "c", call, path(), "c", ["a"])
