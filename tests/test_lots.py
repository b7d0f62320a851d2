"""Points 32 to 34, and what point 3 says of bound and free colours."""

import itertools

from doorlots.errors import InvalidHouse, UnknownColour
from doorlots.houses import House
from doorlots.linking import links
from doorlots.lots import are_bound, chain, lots
from doorlots.splits import is_split
from tests.helper import (
    NOT_COLOURS, SIXTEEN, Case, all_houses, cube, four, groupings, line, path, random_crosses, random_house,
    random_houses, sixteen, square,
)

TWO = (are_bound, chain)


def three():
    """Four halls in a line with three colours."""
    return House(4, ((0, 1, "a"), (1, 2, "b"), (2, 3, "c")))


def ring():
    """Six halls in a ring with six colours."""
    return House(6, ((0, 1, "a"), (0, 5, "f"), (1, 2, "b"), (2, 3, "c"), (3, 4, "d"), (4, 5, "e")))


def some_houses():
    return [House(1), four(), three(), ring(), sixteen(), cube(3), *all_houses(3, "abc"), *all_houses(4, "ab"),
            *random_houses(80), *random_crosses(40)]


def chains(house, one, other):
    """The shortest chains of links in ascending order, by trying all tuples of colours; none if there is none."""
    linked = links(house)
    middle = [colour for colour in house.colours() if colour not in (one, other)]
    for many in range(len(middle) + 1):
        found = []
        for between in itertools.permutations(middle, many):
            row = (one, *between, other)
            if all(tuple(sorted(pair)) in linked for pair in zip(row, row[1:])):
                found.append(row)
        if found:
            return sorted(found)
    return []


class Lots(Case):
    def test_examples(self):
        self.check_returns((("a",), ("b",)), lots, square())
        self.check_returns((("a", "b", "c"),), lots, three())
        self.check_returns((), lots, House(1))

    def test_ordinary_houses(self):
        self.check_returns((("a",),), lots, House(2, ((0, 1, "a"),)))
        self.check_returns((("a", "b"),), lots, path())
        self.check_returns((("a", "b", "c"),), lots, four())
        self.check_returns((("a", "b", "c"),), lots, square().opened((0, 3, "c")))
        self.check_returns((("a", "b"),), lots, line(64))
        self.check_returns((SIXTEEN,), lots, sixteen())
        self.check_returns(tuple((colour,) for colour in "abcdef"), lots, cube(6))
        self.check_returns((tuple("abcdef"),), lots, ring())

    def test_lots_in_ascending_order(self):
        doors = ((0, 1, "z"), (0, 3, "c"), (1, 2, "aa"), (1, 4, "c"), (2, 5, "c"), (3, 4, "z"), (4, 5, "aa"))
        self.check_returns((("aa", "z"), ("c",)), lots, House(6, doors))
        doors = ((0, 1, "b"), (0, 3, "a"), (1, 2, "c"), (1, 4, "a"), (2, 5, "a"), (3, 4, "b"), (4, 5, "c"))
        self.check_returns((("a",), ("b", "c")), lots, House(6, doors))

    def test_all_splits(self):
        """Two colours are in the same lot exactly if each split has them in the same lot."""
        for house in some_houses():
            if len(house.colours()) > 6:
                continue
            splits = [grouping for grouping in groupings(house.colours()) if is_split(house, grouping)]
            found = lots(house)
            self.assertIn(found, splits)
            for one, other in itertools.combinations(house.colours(), 2):
                together = any(one in lot and other in lot for lot in found)
                always = all(any(one in lot and other in lot for lot in split) for split in splits)
                self.assertEqual(together, always)

    def test_many_halls_and_colours(self):
        house = random_house(7, 64, SIXTEEN, 300)
        self.check_returns((SIXTEEN,), lots, house)

    def test_wrong_houses(self):
        self.check_wrong_houses(lots)


class AreBound(Case):
    def test_examples(self):
        self.check_returns(False, are_bound, square(), "a", "b")
        self.check_returns(True, are_bound, square().opened((0, 3, "c")), "a", "b")

    def test_ordinary_houses(self):
        self.check_returns(True, are_bound, path(), "b", "a")
        self.check_returns(True, are_bound, three(), "c", "a")
        self.check_returns(True, are_bound, four(), "c", "a")
        self.check_returns(True, are_bound, ring(), "b", "f")
        self.check_returns(False, are_bound, cube(6), "f", "a")
        self.check_returns(True, are_bound, sixteen(), "a", "p")

    def test_bound_with_a_chain_or_free_with_a_split(self):
        for house in some_houses():
            if len(house.colours()) > 6:
                continue
            splits = [grouping for grouping in groupings(house.colours()) if is_split(house, grouping)]
            for one, other in itertools.permutations(house.colours(), 2):
                apart = any(one in lot and other not in lot for split in splits for lot in split)
                self.check_same(are_bound(house, one, other), not apart)
                self.check_same(chain(house, one, other) is None, apart)


class Chain(Case):
    def test_examples(self):
        self.check_returns(("a", "b", "c"), chain, three(), "a", "c")
        self.check_returns(("b", "a"), chain, three(), "b", "a")

    def test_ordinary_houses(self):
        self.check_returns(None, chain, square(), "a", "b")
        self.check_returns(None, chain, cube(6), "e", "b")
        self.check_returns(("c", "b", "a"), chain, three(), "c", "a")
        self.check_returns(("p", "a"), chain, sixteen(), "p", "a")
        self.check_returns(("a", "d"), chain, ring(), "a", "d")

    def test_a_long_chain(self):
        house = House(17, tuple((hall, hall + 1, SIXTEEN[hall]) for hall in range(16)))
        self.check_returns(SIXTEEN, chain, house, "a", "p")
        self.check_returns(SIXTEEN[::-1], chain, house, "p", "a")

    def test_the_least_of_the_shortest(self):
        self.assertEqual(links(ring()), tuple(sorted([
            ("a", "b"), ("b", "c"), ("c", "d"), ("d", "e"), ("e", "f"), ("a", "f"), ("a", "d"), ("b", "e"), ("c", "f")])))
        self.check_returns(("a", "b", "c"), chain, ring(), "a", "c")
        self.check_returns(("c", "b", "a"), chain, ring(), "c", "a")
        self.check_returns(("a", "b", "e"), chain, ring(), "a", "e")
        self.check_returns(("e", "b", "a"), chain, ring(), "e", "a")
        self.check_returns(("f", "a", "b"), chain, ring(), "f", "b")

    def test_all_chains(self):
        for house in some_houses():
            if len(house.colours()) > 6:
                continue
            for one, other in itertools.permutations(house.colours(), 2):
                found = chains(house, one, other)
                self.check_same(chain(house, one, other), found[0] if found else None)


class WrongArguments(Case):
    def test_wrong_houses(self):
        for call in TWO:
            self.check_wrong_houses(call, "a", "b")

    def test_unknown_colours(self):
        for call in TWO:
            for at, colour in enumerate(("c", "z", "aa", *NOT_COLOURS)):
                with self.subTest(call.__name__, at=at):
                    self.check_raises(UnknownColour, "colour", colour, call, square(), colour, "b")
                    self.check_raises(UnknownColour, "colour", colour, call, square(), "a", colour)
                    self.check_raises(UnknownColour, "colour", colour, call, square(), colour, colour)

    def test_two_colours_that_are_the_same_one(self):
        for call in TWO:
            self.check_raises(UnknownColour, "colour", "a", call, square(), "a", "a")
            self.check_raises(UnknownColour, "colour", "b", call, path(), "b", "b")

    def test_a_house_without_colours(self):
        for call in TWO:
            self.check_raises(UnknownColour, "colour", "a", call, House(1), "a", "b")

    def test_order_of_errors(self):
        for call in TWO:
            self.check_order(
                call, (square(), 4, InvalidHouse, "house", 4), ("a", "c", UnknownColour, "colour", "c"),
                ("b", True, UnknownColour, "colour", True))
