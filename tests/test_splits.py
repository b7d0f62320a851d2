"""Points 35 to 40, and what point 3 says of splits."""

import itertools

from doorlots.distances import distance
from doorlots.errors import InvalidAddress, InvalidColours, InvalidGrouping, InvalidHouse, NotASplit
from doorlots.houses import House
from doorlots.lots import lots
from doorlots.splits import addresses, hall_at, is_split, part, split_count, unsplittable_parts
from tests.helper import (
    NOT_COLOURS, NOT_INTEGERS, SIXTEEN, Case, Odd, all_houses, crossed, cube, four, groupings, line, path, pushed,
    random_crosses, random_houses, shuffled, sixteen, square,
)

APART = (("a",), ("b",))
TOGETHER = (("a", "b"),)
# For the square: of each wrong value the position that is reported.
WRONG_GROUPINGS = (
    (None, None), (None, True), (None, 0), (None, ""), (None, "ab"), (None, []), (None, [("a",), ("b",)]), (None, {}),
    (None, {("a",): 1, ("b",): 2}), (None, Odd()), (None, House(1)), (None, ()), (None, (("a",),)), (None, (("b",),)),
    (0, ((),)), (0, ((), ("a",), ("b",))), (0, ("a", "b")), (0, ("a", ("b",))), (0, (["a"], ["b"])), (0, (None,)),
    (0, (True, False)), (0, (Odd(),)), (0, (("b", "a"),)), (0, (("a", "a"), ("b",))), (0, (("a", "b", "b"),)),
    (0, (("a", "b", "c"),)), (0, (("A",), ("b",))), (0, ((0,), (1,))), (0, (("a", True),)), (0, (("a", ["b"]),)),
    (0, (("a", Odd()), ("b",))), (0, (("c",), ("a",))), (1, (("a",), "b")), (1, (("a",), ["b"])), (1, (("a",), ())),
    (1, (("b",), ("a",))), (1, (("a",), ("a",))), (1, (("a",), ("a", "b"))), (1, (("a", "b"), ("a",))),
    (1, (("a", "b"), ("b",))), (1, (("a", "b"), ("a", "b"))), (1, (("a",), ("c",), ("b",))), (1, (("a",), ("b", "c"))),
    (1, (("a",), None, None)), (1, (("a",), (True,))), (2, (("a",), ("b",), ("c",))), (2, (("a",), ("b",), ())),
    (2, (("a",), ("b",), ("b",))), (2, (("a",), ("b",), Odd())),
)


def part_of(house, colours):
    """The part and its halls by the words of point 9."""
    halls = {0}
    for step in range(house.halls):
        halls |= {pushed(house, hall, colour) for hall in halls for colour in colours}
    halls = sorted(halls)
    doors = [(halls.index(low), halls.index(high), colour) for low, high, colour in house.doors
             if colour in colours and low in halls and high in halls]
    return House(len(halls), tuple(sorted(doors))), tuple(halls)


def fits(house, grouping, parts, table):
    """The last condition of point 9 for a table of addresses."""
    for (hall, one), (goal, other) in itertools.combinations(enumerate(table), 2):
        places = [at for at in range(len(parts)) if one[at] != other[at]]
        for at, lot in enumerate(grouping):
            for colour in lot:
                joined = places == [at] and pushed(parts[at], one[at], colour) == other[at]
                if joined != (pushed(house, hall, colour) == goal):
                    return False
    return True


def tables(house, grouping):
    """All tables of addresses as in point 9, by trying all of them."""
    parts = [part_of(house, lot)[0] for lot in grouping]
    zeros, *others = itertools.product(*[range(smaller.halls) for smaller in parts])
    if len(others) + 1 != house.halls:
        return []
    choices = [(zeros, *order) for order in itertools.permutations(others)]
    return [table for table in choices if fits(house, grouping, parts, table)]


def tiny_houses():
    """Houses whose tables can all be tried."""
    prism = House(*crossed([path(), House(2, ((0, 1, "c"),))]))
    triangles = House(*crossed([House(3, ((0, 1, "a"), (0, 2, "b"), (1, 2, "d"))), House(2, ((0, 1, "c"),))]))
    return [House(1), four(), prism, shuffled(prism, 1), shuffled(triangles, 2), prism.shut((0, 1, "c")),
            *all_houses(2, "abc"), *all_houses(3, "ab"), *all_houses(4, "ab"), *list(all_houses(4, "abc"))[::5],
            *random_houses(3)]


def more_houses():
    return [cube(3), sixteen().shut((0, 1, "p")), *all_houses(4, "abc"), *random_houses(80), *random_crosses(40)]


class Part(Case):
    def check_part(self, halls, doors, kept, house, colours):
        for result in (part(house, colours), part(house=house, colours=colours)):
            self.assertIs(type(result), tuple)
            smaller, found = result
            self.check_house(smaller, halls, doors)
            self.check_same(found, kept)

    def test_examples(self):
        self.check_part(2, ((0, 1, "b"),), (0, 2), square(), ("b",))
        self.check_raises(InvalidColours, "position", 1, part, path(), ("b", "a"))

    def test_ordinary_parts(self):
        self.check_part(4, square().doors, (0, 1, 2, 3), square(), ("a", "b"))
        self.check_part(1, (), (0,), path(), ("b",))
        self.check_part(2, ((0, 1, "a"),), (0, 1), path(), ("a",))
        self.check_part(4, ((0, 1, "f"), (0, 2, "b"), (1, 3, "b"), (2, 3, "f")), (0, 1, 16, 17), cube(6), ("b", "f"))
        self.check_part(2, ((0, 1, "c"), (0, 1, "p")), (0, 1), sixteen(), ("c", "p"))
        self.check_part(64, line(64).doors, tuple(range(64)), line(64), ("a", "b"))

    def test_no_colours(self):
        for house in (House(1), path(), sixteen(), line(64)):
            self.check_part(1, (), (0,), house, ())

    def test_all_colours(self):
        for house in (House(1), path(), four(), sixteen(), cube(6)):
            self.check_part(house.halls, house.doors, tuple(range(house.halls)), house, house.colours())

    def test_doors_of_these_colours_elsewhere_are_left_out(self):
        house = House(5, ((0, 1, "a"), (1, 2, "b"), (2, 3, "a"), (3, 4, "b")))
        self.check_part(2, ((0, 1, "a"),), (0, 1), house, ("a",))
        turned = house.renumbered((2, 4, 0, 3, 1))
        self.check_part(2, ((0, 1, "a"),), (0, 3), turned, ("a",))

    def test_by_the_words(self):
        for house in tiny_houses() + more_houses():
            colours = house.colours()
            for many in range(min(len(colours), 5) + 1):
                for chosen in itertools.combinations(colours[:5], many):
                    smaller, halls = part_of(house, chosen)
                    self.check_part(smaller.halls, smaller.doors, halls, house, chosen)

    def test_wrong_colours(self):
        wrong = (
            (None, None), (None, "a"), (None, "ab"), (None, []), (None, ["a"]), (None, {}), (None, 0), (None, Odd()),
            (0, (0,)), (0, (True,)), (0, ("c",)), (0, ("A", "b")), (0, (("a",),)), (0, (["a"],)), (0, (Odd(), "b")),
            (0, (None, "a")), (0, ("", "a")), (1, ("a", "a")), (1, ("b", "a")), (1, ("b", "b", None)), (1, ("a", None)),
            (1, ("a", "c")), (1, ("a", "aa", "b")), (2, ("a", "b", "c")), (2, ("a", "b", "a")), (2, ("a", "b", 1)),
            (2, ("a", "b", Odd())),
        )
        for at, (position, colours) in enumerate(wrong):
            with self.subTest(at=at):
                self.check_raises(InvalidColours, "position", position, part, square(), colours)
        for at, colour in enumerate(NOT_COLOURS):
            with self.subTest(colour=at):
                self.check_raises(InvalidColours, "position", 1, part, square(), ("a", colour))
        self.check_raises(InvalidColours, "position", 0, part, House(1), ("a",))
        self.check_raises(InvalidColours, "position", 16, part, sixteen(), (*SIXTEEN, "q"))

    def test_wrong_houses(self):
        self.check_wrong_houses(part, ("a",))

    def test_order_of_errors(self):
        self.check_order(
            part, (path(), None, InvalidHouse, "house", None), (("a",), ["a"], InvalidColours, "position", None))


class UnsplittableParts(Case):
    def check_parts(self, expected, house):
        for result in (unsplittable_parts(house), unsplittable_parts(house=house)):
            self.assertIs(type(result), tuple)
            self.assertEqual(len(result), len(expected))
            for smaller, (halls, doors) in zip(result, expected):
                self.check_house(smaller, halls, doors)

    def test_example(self):
        self.check_parts([(2, ((0, 1, "a"),)), (2, ((0, 1, "b"),))], square())

    def test_ordinary_houses(self):
        self.check_parts([], House(1))
        self.check_parts([(3, path().doors)], path())
        self.check_parts([(2, sixteen().doors)], sixteen())
        self.check_parts([(64, line(64).doors)], line(64))
        self.check_parts([(2, ((0, 1, colour),)) for colour in "abcdef"], cube(6))

    def test_they_are_the_parts_of_the_lots(self):
        for house in more_houses():
            expected = [part_of(house, lot)[0] for lot in lots(house)]
            self.check_parts([(smaller.halls, smaller.doors) for smaller in expected], house)

    def test_they_are_unsplittable(self):
        for house in more_houses():
            for smaller in unsplittable_parts(house):
                self.check_same(lots(smaller), (smaller.colours(),))
                self.assertEqual(len(unsplittable_parts(smaller)), 1)
                self.check_house(unsplittable_parts(smaller)[0], smaller.halls, smaller.doors)

    def test_wrong_houses(self):
        self.check_wrong_houses(unsplittable_parts)


class IsSplit(Case):
    def test_examples(self):
        self.check_returns(True, is_split, square(), APART)
        self.check_returns(False, is_split, path(), APART)
        self.check_returns(True, is_split, path(), TOGETHER)
        self.check_returns(True, is_split, House(1), ())
        self.check_raises(InvalidGrouping, "position", None, is_split, path(), (("b",),))
        self.check_raises(InvalidGrouping, "position", 1, is_split, path(), (("b",), ("a",)))

    def test_one_lot(self):
        for house in (path(), square(), four(), sixteen(), cube(6), line(64)):
            self.check_returns(True, is_split, house, (house.colours(),))

    def test_ordinary_groupings(self):
        self.check_returns(False, is_split, four(), (("a",), ("b",), ("c",)))
        self.check_returns(False, is_split, four(), (("a", "c"), ("b",)))
        self.check_returns(True, is_split, cube(6), (("a", "f"), ("b", "c", "e"), ("d",)))
        self.check_returns(False, is_split, sixteen(), (SIXTEEN[:8], SIXTEEN[8:]))
        self.check_returns(False, is_split, sixteen(), tuple((colour,) for colour in SIXTEEN))
        self.check_returns(False, is_split, line(64), APART)

    def test_the_numbers_of_halls_alone_do_not_tell(self):
        """The parts of these have two halls each, and two of the halls would have one address, or doors differ."""
        self.check_returns(False, is_split, House(4, ((0, 1, "a"), (0, 2, "b"), (1, 3, "b"))), APART)
        house = House(4, ((0, 1, "a"), (0, 2, "b"), (1, 3, "b"), (2, 3, "c")))
        self.check_returns(False, is_split, house, (("a", "c"), ("b",)))

    def test_all_tables(self):
        for house in tiny_houses():
            for grouping in groupings(house.colours()):
                found = tables(house, grouping)
                self.assertLessEqual(len(found), 1)
                self.check_same(is_split(house, grouping), len(found) == 1)

    def test_unions_of_lots_of_the_finest_split(self):
        for house in more_houses():
            finest = lots(house)
            for grouping in itertools.islice(groupings(house.colours()), 300):
                union = all(set(lot) <= set(other) for lot in finest for other in grouping if set(lot) & set(other))
                self.check_same(is_split(house, grouping), union)

    def test_the_distance_is_the_sum_of_the_distances_in_the_parts(self):
        for house in random_crosses(12):
            for grouping in groupings(house.colours()):
                if is_split(house, grouping):
                    table = addresses(house, grouping)
                    parts = [part_of(house, lot)[0] for lot in grouping]
                    for one, other in itertools.combinations(range(0, house.halls, 3), 2):
                        ways = zip(parts, table[one], table[other])
                        self.assertEqual(distance(house, one, other), sum(distance(*way) for way in ways))


class SplitCount(Case):
    def test_examples(self):
        self.check_returns(2, split_count, square())
        self.check_returns(1, split_count, square().opened((0, 3, "c")))
        self.check_returns(1, split_count, House(1))

    def test_as_many_as_there_are_unions(self):
        for bits, many in ((1, 1), (2, 2), (3, 5), (4, 15), (5, 52), (6, 203)):
            self.check_returns(many, split_count, cube(bits))
        self.check_returns(1, split_count, sixteen())
        self.check_returns(1, split_count, line(64))

    def test_all_groupings(self):
        for house in [*all_houses(4, "abc"), *random_houses(40), *random_crosses(20)]:
            many = sum(is_split(house, grouping) for grouping in groupings(house.colours()))
            self.check_returns(many, split_count, house)

    def test_wrong_houses(self):
        self.check_wrong_houses(split_count)


class Addresses(Case):
    def test_examples(self):
        self.check_returns(((0, 0), (1, 0), (0, 1), (1, 1)), addresses, square(), APART)
        self.check_returns(((),), addresses, House(1), ())
        self.check_returns(((0,), (1,), (2,)), addresses, path(), TOGETHER)
        self.check_raises(NotASplit, "grouping", APART, addresses, path(), APART)

    def test_ordinary_splits(self):
        self.check_returns(((0,), (1,), (2,), (3,)), addresses, square(), TOGETHER)
        self.check_returns(tuple((hall,) for hall in range(64)), addresses, line(64), TOGETHER)
        bits = tuple(tuple(map(int, f"{hall:06b}")) for hall in range(64))
        self.check_returns(bits, addresses, cube(6), tuple((colour,) for colour in "abcdef"))
        turned = square().renumbered((3, 1, 0, 2))
        self.check_returns(((0, 0), (0, 1), (1, 1), (1, 0)), addresses, turned, APART)

    def test_all_tables(self):
        for house in tiny_houses():
            for grouping in groupings(house.colours()):
                found = tables(house, grouping)
                if found:
                    self.check_returns(found[0], addresses, house, grouping)
                else:
                    self.check_raises(NotASplit, "grouping", grouping, addresses, house, grouping)

    def test_by_the_words(self):
        for house in random_crosses(20):
            for grouping in groupings(house.colours()):
                if is_split(house, grouping):
                    table = addresses(house, grouping)
                    parts = [part_of(house, lot)[0] for lot in grouping]
                    every = itertools.product(*[range(smaller.halls) for smaller in parts])
                    self.assertEqual(table[0], (0,) * len(grouping))
                    self.assertEqual(sorted(table), sorted(every))
                    self.assertTrue(fits(house, grouping, parts, table))


class HallAt(Case):
    def test_examples(self):
        self.check_returns(3, hall_at, square(), APART, (1, 1))
        self.check_raises(InvalidAddress, "address", (1, 2), hall_at, square(), APART, (1, 2))
        self.check_raises(InvalidAddress, "address", (True,), hall_at, House(2, ((0, 1, "a"),)), (("a",),), (True,))

    def test_ordinary_addresses(self):
        self.check_returns(0, hall_at, House(1), (), ())
        self.check_returns(2, hall_at, path(), TOGETHER, (2,))
        self.check_returns(63, hall_at, line(64), TOGETHER, (63,))
        self.check_returns(37, hall_at, cube(6), tuple((colour,) for colour in "abcdef"), (1, 0, 0, 1, 0, 1))

    def test_each_address_of_the_table(self):
        for house in [square(), cube(4), *random_crosses(12)]:
            for grouping in groupings(house.colours()):
                if is_split(house, grouping):
                    for hall, address in enumerate(addresses(house, grouping)):
                        self.check_same(hall_at(house, grouping, address), hall)

    def test_wrong_addresses(self):
        wrong = (
            None, True, 0, "", "00", [], [0, 0], {}, Odd(), House(1), (), (0,), (0, 0, 0), (0, 2), (2, 0), (-1, 0),
            (0, -1), (0, 10 ** 39), (False, 0), (0, True), (True, True), (0, "1"), (0, None), (0, [1]), (0, (1,)),
            ((0, 0),), (0, Odd()), (Odd(), 0),
        )
        for at, address in enumerate(wrong):
            with self.subTest(at=at):
                self.check_raises(InvalidAddress, "address", address, hall_at, square(), APART, address)
        for at, component in enumerate((-1, 4, *NOT_INTEGERS)):
            with self.subTest(component=at):
                address = (component,)
                self.check_raises(InvalidAddress, "address", address, hall_at, square(), TOGETHER, address)
        for address in ((0,), [], None, ((),)):
            self.check_raises(InvalidAddress, "address", address, hall_at, House(1), (), address)

    def test_each_component_has_its_own_bound(self):
        house = House(*crossed([path(), House(2, ((0, 1, "c"),))]))
        split = (("a", "b"), ("c",))
        self.check_returns(5, hall_at, house, split, (2, 1))
        self.check_raises(InvalidAddress, "address", (1, 2), hall_at, house, split, (1, 2))
        self.check_raises(InvalidAddress, "address", (3, 0), hall_at, house, split, (3, 0))

    def test_not_a_split_comes_before_the_address(self):
        for address in ((0, 0), (9, 9), None, [0], (True, 0)):
            self.check_raises(NotASplit, "grouping", APART, hall_at, path(), APART, address)


class WrongArguments(Case):
    def test_wrong_houses(self):
        for call in (is_split, addresses):
            self.check_wrong_houses(call, APART)
        self.check_wrong_houses(hall_at, APART, (0, 0))

    def test_wrong_groupings(self):
        for at, (position, grouping) in enumerate(WRONG_GROUPINGS):
            with self.subTest(at=at):
                self.check_raises(InvalidGrouping, "position", position, is_split, square(), grouping)
                self.check_raises(InvalidGrouping, "position", position, addresses, square(), grouping)
                self.check_raises(InvalidGrouping, "position", position, hall_at, square(), grouping, (0, 0))

    def test_wrong_groupings_of_one_hall(self):
        for position, grouping in ((None, []), (None, None), (0, ((),)), (0, (("a",),)), (0, (None,))):
            self.check_raises(InvalidGrouping, "position", position, is_split, House(1), grouping)

    def test_wrong_groupings_of_sixteen_colours(self):
        each = tuple((colour,) for colour in SIXTEEN)
        self.check_raises(InvalidGrouping, "position", None, is_split, sixteen(), each[:15])
        self.check_raises(InvalidGrouping, "position", None, is_split, sixteen(), each[1:])
        self.check_raises(InvalidGrouping, "position", 16, is_split, sixteen(), (*each, ("q",)))

    def test_a_later_lot_may_have_a_lesser_colour(self):
        house = four()
        self.check_returns(False, is_split, house, (("a", "c"), ("b",)))
        self.check_raises(InvalidGrouping, "position", 1, is_split, house, (("b",), ("a", "c")))

    def test_order_of_errors(self):
        rows = [(square(), None, InvalidHouse, "house", None), (APART, [], InvalidGrouping, "position", None)]
        self.check_order(is_split, *rows)
        self.check_order(addresses, *rows)
        self.check_order(hall_at, *rows, ((0, 1), (0, True), InvalidAddress, "address", (0, True)))
        self.check_raises(InvalidGrouping, "position", 1, addresses, path(), (("a",), ("c",)))
