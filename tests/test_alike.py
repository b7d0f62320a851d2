"""Points 46 to 49, and what point 3 says of houses that are alike."""

import itertools

from doorlots.alike import alike_map, difference, renaming, symmetries
from doorlots.errors import InvalidHall, InvalidHouse, TooManyColours
from doorlots.houses import House
from doorlots.splits import cross
from doorlots.walks import walk
from tests.helper import (
    NOT_INTEGERS, SIXTEEN, WRONG_HOUSES, Case, Odd, all_houses, cube, edge, edges, four, kinds, led, line, path,
    random_house, random_houses, shuffled, sixteen, small_houses, square,
)

TWO = (alike_map, difference)


def is_map(one, other, places):
    """Whether these are the places in the other house to which the halls are taken, by the words of point 46."""
    if sorted(places) != list(range(other.halls)) or len(places) != one.halls:
        return False
    return sorted((*sorted((places[low], places[high])), colour) for low, high, colour in one.doors) == list(other.doors)


def maps(one, other, start, other_start):
    """All maps by which the houses are alike, by trying all orders of the halls."""
    orders = itertools.permutations(range(other.halls), one.halls)
    return [order for order in orders if order[start] == other_start and is_map(one, other, order)]


def rows_home(one, other, start, other_start, most):
    """The shortest rows that lead home in exactly one house, by trying all rows up to this length."""
    colours = sorted(set(one.colours()) | set(other.colours()))
    for many in range(most + 1):
        rows = [row for row in itertools.product(colours, repeat=many)
                if (led(one, start, row) == start) != (led(other, other_start, row) == other_start)]
        if rows:
            return rows
    return None


def few_houses():
    return [House(1), edge("a"), edge("b"), path(), square(), four(), line(4), House(2, ((0, 1, "a"), (0, 1, "b"))),
            square().renumbered((3, 1, 0, 2)), path().renumbered((1, 0, 2)), *all_houses(3, "ab")]


def pairs_of_houses():
    """Pairs with two halls: of a few houses all, of others those that are nearly the same."""
    for one, other in itertools.product(few_houses(), repeat=2):
        for start, other_start in itertools.product(range(one.halls), range(other.halls)):
            yield one, other, start, other_start
    for at, house in enumerate(random_houses(40)):
        turned = shuffled(house, at)
        for other in (turned, random_house(at, house.halls, house.colours(), 3)):
            for other_start in range(other.halls):
                yield house, other, at % house.halls, other_start


class AlikeMap(Case):
    def test_examples(self):
        self.check_returns((3, 2, 1, 0), alike_map, square(), square(), other_start=3)
        self.check_returns(None, alike_map, square(), edge("a"))

    def test_ordinary_houses(self):
        self.check_returns((0,), alike_map, House(1), House(1))
        self.check_returns(None, alike_map, House(1), edge("a"))
        self.check_returns(None, alike_map, edge("a"), edge("b"))
        self.check_returns((1, 0), alike_map, edge("a"), edge("a"), start=1)
        self.check_returns((0, 1), alike_map, edge("a"), edge("a"), start=1, other_start=1)
        self.check_returns(None, alike_map, path(), path(), start=0, other_start=2)
        self.check_returns(None, alike_map, path(), path(), other_start=1)
        self.check_returns((1, 2, 0), alike_map, path(), path().renumbered((2, 0, 1)), other_start=1)
        self.check_returns(None, alike_map, line(5), line(6))
        self.check_returns(None, alike_map, edge("a"), House(2, ((0, 1, "a"), (0, 1, "b"))))

    def test_the_same_house_twice(self):
        for house in (House(1), path(), four(), sixteen(), cube(6), line(64), random_house(5, 64, SIXTEEN, 200)):
            for hall in (0, house.halls - 1):
                every = tuple(range(house.halls))
                self.check_returns(every, alike_map, house, house, start=hall, other_start=hall)

    def test_sixty_four_halls(self):
        self.check_returns(tuple(range(63, -1, -1)), alike_map, line(64), line(64), other_start=63)
        self.check_returns(tuple(hall ^ 37 for hall in range(64)), alike_map, cube(6), cube(6), start=37)
        house = random_house(1, 64, SIXTEEN, 300)
        order = tuple(range(63, -1, -1))
        self.check_returns(order, alike_map, house, house.renumbered(order), start=5, other_start=58)

    def test_as_many_halls_and_doors_of_each_colour(self):
        """Each hall has a door of each colour: a ring of eight halls, and two rings of four, each with doors across."""
        both = [*[(hall, hall + 1, "a") for hall in (0, 2, 4, 6)], *[(hall, hall + 4, "c") for hall in range(4)]]
        ring = House(8, tuple(sorted([*both, (0, 7, "b"), (1, 2, "b"), (3, 4, "b"), (5, 6, "b")])))
        rings = House(8, tuple(sorted([*both, (0, 3, "b"), (1, 2, "b"), (4, 7, "b"), (5, 6, "b")])))
        for hall in range(8):
            self.check_returns(None, alike_map, ring, rings, other_start=hall)
            self.check_returns(None, alike_map, rings, ring, other_start=hall)

    def test_all_maps(self):
        for one, other, start, other_start in pairs_of_houses():
            if max(one.halls, other.halls) <= 5:
                found = maps(one, other, start, other_start)
                self.assertLessEqual(len(found), 1)
                result = alike_map(one, other, start=start, other_start=other_start)
                self.check_same(result, found[0] if found else None)

    def test_alike_houses_have_the_same_colours(self):
        for one, other, start, other_start in pairs_of_houses():
            places = alike_map(one, other, start=start, other_start=other_start)
            if places is not None:
                self.assertEqual(one.colours(), other.colours())
                self.assertTrue(is_map(one, other, places))
                self.assertEqual(places[start], other_start)


class Difference(Case):
    def test_examples(self):
        self.check_returns(("b",), difference, square(), path())
        self.check_returns(("a", "b", "a"), difference, square(), path(), other_start=1)
        self.check_returns(None, difference, square(), square(), start=3)

    def test_ordinary_houses(self):
        self.check_returns(None, difference, House(1), House(1))
        self.check_returns(("a",), difference, House(1), edge("a"))
        self.check_returns(("a",), difference, edge("a"), House(1))
        self.check_returns(("a",), difference, path(), path(), other_start=2)
        self.check_returns(None, difference, line(64), line(64), start=63)

    def test_houses_without_a_common_colour(self):
        self.check_returns(("a",), difference, edge("b"), edge("a"))
        self.check_returns(("b",), difference, edge("b"), edge("z"))
        others = House(2, tuple((0, 1, colour * 2) for colour in SIXTEEN))
        self.check_returns(("a",), difference, others, sixteen())
        self.check_returns(("a",), difference, sixteen(), others)

    def test_the_colours_of_both_houses(self):
        one = House(3, ((0, 1, "b"), (1, 2, "c")))
        other = House(3, ((0, 1, "b"), (1, 2, "a")))
        self.check_returns(("b", "a", "b"), difference, one, other)
        self.check_returns(("b", "a", "b"), difference, other, one)

    def test_home_in_the_first_or_in_the_second_house(self):
        self.check_returns(("a", "b", "c"), difference, four(), cross(edges("abc")))
        self.check_returns(("a", "b", "c"), difference, cross(edges("abc")), four())
        self.check_returns(("a", "b", "a"), difference, edge("a"), path())

    def test_all_rows(self):
        for one, other, start, other_start in pairs_of_houses():
            result = difference(one, other, start=start, other_start=other_start)
            if max(one.halls, other.halls) <= 4 and (result is None or len(result) <= 5):
                rows = rows_home(one, other, start, other_start, 5)
                self.check_same(result, rows[0] if rows else None)

    def test_a_map_or_a_row(self):
        """Exactly one of both is None, and the row leads home in exactly one house."""
        for one, other, start, other_start in pairs_of_houses():
            row = difference(one, other, start=start, other_start=other_start)
            places = alike_map(one, other, start=start, other_start=other_start)
            self.assertNotEqual(row is None, places is None)
            if row is not None:
                homes = (led(one, start, row) == start, led(other, other_start, row) == other_start)
                self.assertEqual(sorted(homes), [False, True])

    def test_long_rows(self):
        """Two lines that are different at their ends only."""
        for halls in (3, 20, 62, 63):
            row = difference(line(halls), line(halls + 1))
            self.assertEqual(kinds(row), kinds(("a",) * len(row)))
            self.assertLessEqual(len(row), 127)
            homes = [walk(house, 0, row)[-1] == 0 for house in (line(halls), line(halls + 1))]
            self.assertEqual(sorted(homes), [False, True])
            # A shorter row does not go beyond the last door that both have, and come home.
            self.assertGreaterEqual(len(row), 2 * halls - 1)
        self.check_returns(("a", "b", "a", "b", "a"), difference, line(3), line(4))

    def test_many_halls(self):
        for seed in range(6):
            one = random_house(seed, 64, SIXTEEN[:3 + seed], 20)
            for other in (random_house(seed + 1, 64, SIXTEEN[:3 + seed], 20), shuffled(one, seed), line(64)):
                row = difference(one, other, start=63, other_start=7)
                self.assertEqual(row is None, alike_map(one, other, start=63, other_start=7) is not None)
                if row is not None:
                    self.assertLessEqual(len(row), 127)
                    self.assertNotEqual(led(one, 63, row) == 63, led(other, 7, row) == 7)


class WrongHousesAndHalls(Case):
    def test_wrong_houses(self):
        for call in TWO:
            for at, wrong in enumerate(WRONG_HOUSES):
                with self.subTest(call.__name__, at=at):
                    self.check_raises(InvalidHouse, "house", wrong, call, wrong, path())
                    self.check_raises(InvalidHouse, "house", wrong, call, path(), wrong)
                    self.check_raises(InvalidHouse, "house", wrong, call, wrong, None, start=9, other_start=9)
                    self.check_raises(InvalidHouse, "house", wrong, call, path(), wrong, start=9, other_start=9)

    def test_wrong_halls(self):
        for call in TWO:
            for at, hall in enumerate((-1, 10 ** 39, *NOT_INTEGERS)):
                with self.subTest(call.__name__, at=at):
                    self.check_raises(InvalidHall, "hall", hall, call, path(), square(), start=hall)
                    self.check_raises(InvalidHall, "hall", hall, call, path(), square(), other_start=hall)

    def test_each_hall_is_of_its_house(self):
        for call in TWO:
            self.check_raises(InvalidHall, "hall", 3, call, path(), square(), start=3, other_start=3)
            self.check_raises(InvalidHall, "hall", 3, call, square(), path(), start=3, other_start=3)
            self.check_raises(InvalidHall, "hall", 4, call, path(), square(), other_start=4)
            call(path(), square(), start=2, other_start=3)

    def test_order_of_errors(self):
        for call in TWO:
            self.check_raises(InvalidHall, "hall", True, call, path(), path(), start=True, other_start=False)
            self.check_raises(InvalidHall, "hall", False, call, path(), path(), start=1, other_start=False)

    def test_the_halls_are_given_by_name_only(self):
        for call in TWO:
            with self.assertRaises(TypeError):
                call(path(), path(), 0)
            with self.assertRaises(TypeError):
                call(path(), path(), 0, 0)


class Symmetries(Case):
    def test_examples(self):
        self.check_returns((0, 1, 2, 3), symmetries, square())
        self.check_returns((0,), symmetries, path())

    def test_ordinary_houses(self):
        self.check_returns((0,), symmetries, House(1))
        self.check_returns((0, 1), symmetries, sixteen())
        self.check_returns((0, 63), symmetries, line(64))
        self.check_returns((0,), symmetries, line(63))
        self.check_returns(tuple(range(64)), symmetries, cube(6))
        self.check_returns((0, 1, 2, 3), symmetries, four())
        self.check_returns((0, 3), symmetries, line(4).renumbered((0, 1, 2, 3)))
        self.check_returns((0, 2), symmetries, line(4).renumbered((1, 0, 2, 3)))

    def test_all_maps(self):
        for house in [*small_houses(), *random_houses(30)]:
            if house.halls <= 5:
                found = [hall for hall in range(house.halls) if maps(house, house, 0, hall)]
                self.check_same(symmetries(house), tuple(found))

    def test_wrong_houses(self):
        self.check_wrong_houses(symmetries)


def renamed(house, names):
    doors = [(low, high, names[colour]) for low, high, colour in house.doors]
    return House(house.halls, tuple(sorted(doors)))


def renamings(one, other):
    """All (PAIRS, MAP), in ascending order, by trying all names and all orders of the halls."""
    found = []
    for names in itertools.permutations(other.colours(), len(one.colours())):
        pairs = tuple(zip(one.colours(), names))
        for order in itertools.permutations(range(other.halls), one.halls):
            if is_map(renamed(one, dict(pairs)), other, order):
                found.append((pairs, order))
    return sorted(found)


class Renaming(Case):
    def test_examples(self):
        self.check_returns(((("a", "x"), ("b", "y")), (2, 1, 0)), renaming, path(), House(3, ((0, 1, "y"), (1, 2, "x"))))
        self.check_returns(None, renaming, path(), House(2, ((0, 1, "a"), (0, 1, "b"))))

    def test_ordinary_houses(self):
        self.check_returns(((), (0,)), renaming, House(1), House(1))
        self.check_returns(None, renaming, House(1), edge("a"))
        self.check_returns(None, renaming, edge("a"), House(1))
        self.check_returns(((("a", "z"),), (0, 1)), renaming, edge("a"), edge("z"))
        self.check_returns(((("a", "a"), ("b", "b")), (0, 1, 2)), renaming, path(), path())
        self.check_returns(None, renaming, square(), line(4))
        self.check_returns(((("a", "a"), ("b", "b")), (0, 1, 2, 3)), renaming, square(), square())
        self.check_returns(((("a", "a"), ("b", "b")), (2, 1, 0)), renaming, path(), path().renumbered((2, 1, 0)))
        self.check_returns(None, renaming, edge("a"), House(2, ((0, 1, "a"), (0, 1, "b"))))

    def test_the_least_pairs_and_the_least_map(self):
        self.check_returns(((("a", "a"), ("b", "b"), ("c", "c")), (0, 1, 2, 3)), renaming, four(), four())
        ring = House(4, ((0, 1, "b"), (0, 3, "a"), (1, 2, "a"), (2, 3, "b")))
        self.check_returns(((("a", "a"), ("b", "b")), (0, 3, 1, 2)), renaming, square(), ring)

    def test_five_colours(self):
        star = House(6, tuple((0, hall, "abcde"[hall - 1]) for hall in range(1, 6)))
        names = dict(zip("abcde", ("e", "bb", "c", "x", "a")))
        expected = (tuple(zip("abcde", ("a", "bb", "c", "e", "x"))), (0, 5, 2, 3, 1, 4))
        self.check_returns(expected, renaming, star, renamed(star, names))
        fives = [House(2, tuple((0, 1, colour) for colour in colours)) for colours in ("abcde", "vwxyz")]
        self.check_returns((tuple(zip("abcde", "vwxyz")), (0, 1)), renaming, *fives)

    def test_sixty_four_halls(self):
        house = random_house(3, 64, "abcde", 60)
        names = dict(zip("abcde", "xaybc"))
        pairs, places = renaming(house, shuffled(renamed(house, names), 4))
        self.check_same(pairs, tuple(sorted(names.items())))
        self.assertTrue(is_map(renamed(house, names), shuffled(renamed(house, names), 4), places))
        self.check_returns(None, renaming, house, random_house(4, 64, "abcde", 60))
        self.check_returns((tuple(zip("ab", "ab")), tuple(range(64))), renaming, line(64), line(64))

    def test_all_names_and_maps(self):
        houses = [*few_houses(), *all_houses(3, "bx"), renamed(path(), {"a": "aa", "b": "a"}), edge("c"),
                  *[house for house in random_houses(30) if house.halls <= 4]]
        for one, other in itertools.product(houses, repeat=2):
            if one.halls == other.halls:
                found = renamings(one, other)
                self.check_same(renaming(one, other), found[0] if found else None)
            else:
                self.check_same(renaming(one, other), None)

    def test_more_than_five_colours(self):
        six = House(2, tuple((0, 1, colour) for colour in "abcdef"))
        for house, many in ((six, 6), (cube(6), 6), (sixteen(), 16)):
            self.check_raises(TooManyColours, "many", many, renaming, house, path())
            self.check_raises(TooManyColours, "many", many, renaming, path(), house)
            self.check_raises(TooManyColours, "many", many, renaming, house, house)

    def test_wrong_houses(self):
        for at, wrong in enumerate(WRONG_HOUSES):
            with self.subTest(at=at):
                self.check_raises(InvalidHouse, "house", wrong, renaming, wrong, path())
                self.check_raises(InvalidHouse, "house", wrong, renaming, path(), wrong)
                self.check_raises(InvalidHouse, "house", wrong, renaming, wrong, sixteen())

    def test_order_of_errors(self):
        self.check_raises(TooManyColours, "many", 16, renaming, sixteen(), Odd())
        self.check_raises(TooManyColours, "many", 16, renaming, sixteen(), cube(6))
        self.check_raises(TooManyColours, "many", 6, renaming, cube(6), sixteen())
        first, second = Odd(), Odd()
        self.check_raises(InvalidHouse, "house", first, renaming, first, second)
