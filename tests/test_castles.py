"""Points 52 to 61, and what point 3 says of Castles."""

import itertools
import math

from doorlots import counts, distances, walks
from doorlots.castles import Castle
from doorlots.errors import (
    InvalidAddress, InvalidLength, InvalidParts, InvalidRow, InvalidTimes, TooManyColours, TooManyHalls,
)
from doorlots.houses import House
from doorlots.lots import lots
from doorlots.splits import cross, unsplittable_parts
from tests.helper import (
    NOT_COLOURS, NOT_INTEGERS, SIXTEEN, SQUARE_DOORS, WRONG_HOUSES, Case, Odd, cube, edge, edges, four, letters, line,
    path, random_crosses, random_house, sixteen, square,
)

MANY = 72


def prism():
    """The castle of the examples."""
    return Castle((path(), edge("c")))


def coloured_line(halls, one, other):
    return House(halls, tuple((hall, hall + 1, (one, other)[hall % 2]) for hall in range(halls - 1)))


def long_castle(parts):
    """Lines of 64 halls in two colours each."""
    names = letters(2 * parts)
    return Castle(tuple(coloured_line(64, *names[at:at + 2]) for at in range(0, 2 * parts, 2)))


def edge_castle(parts):
    return Castle(edges(letters(parts)))


def random_castle(seed):
    """A castle that has at most 48 halls."""
    parts = [random_house(seed, 2 + seed % 3, "be", seed % 4), random_house(seed + 1, 2 + seed // 3 % 3, "adg", seed % 3)]
    if seed % 2 == 0:
        parts.append(random_house(seed + 2, 2 + seed % 4 // 2, "cf", seed % 3))
    return Castle(tuple(parts if seed % 4 < 2 else parts[::-1]))


def small_castles():
    return [Castle(()), Castle((path(),)), prism(), Castle(edges("cab")), Castle((four(), edge("x"))),
            Castle((square(), path().recoloured("a", "x").recoloured("b", "e"))), *map(random_castle, range(12))]


def halls_of(castle):
    """The addresses in ascending order, as the halls of the written-out cross."""
    return list(itertools.product(*[range(house.halls) for house in castle.parts]))


def some_rows(castle):
    colours = [*castle.colours(), "zz"]
    yield ()
    yield tuple(colours)
    yield tuple(colours[::-1]) * 2
    for at in range(3):
        yield tuple(colours[(at + step * step) % len(colours)] for step in range(7 + at))


class Making(Case):
    def test_examples(self):
        self.check_same([repr(prism()), len(prism()), repr(Castle(()))],
                        ["Castle(2 parts, 6 halls)", 2, "Castle(0 parts, 1 halls)"])
        self.check_raises(InvalidParts, "position", 1, Castle, (edge("c"), House(1)))

    def test_parts(self):
        parts = (path(), edge("c"))
        for castle in (Castle(parts), Castle(parts=parts)):
            self.assertIs(type(castle), Castle)
            self.assertIs(type(castle.parts), tuple)
            self.assertEqual(len(castle.parts), 2)
            for house, expected in zip(castle.parts, parts):
                self.check_house(house, expected.halls, expected.doors)
        self.check_same(Castle(()).parts, ())

    def test_len_and_truth(self):
        for many in (0, 1, 2, 71, 72):
            castle = edge_castle(many)
            self.check_same(len(castle), many)
            self.assertIs(bool(castle), many > 0)

    def test_repr(self):
        self.check_same(repr(Castle((path(),))), "Castle(1 parts, 3 halls)")
        self.check_same(repr(Castle((sixteen(),))), "Castle(1 parts, 2 halls)")
        self.check_same(repr(long_castle(72)), f"Castle(72 parts, {64 ** 72} halls)")

    def test_equal(self):
        self.assertEqual(prism(), prism())
        self.assertEqual(Castle(()), Castle(()))
        self.assertFalse(prism() != prism())
        for other in (Castle((edge("c"), path())), Castle((path(), edge("d"))), Castle((path(),)), Castle(()),
                      Castle((path().renumbered((2, 1, 0)), edge("c"))), Castle((prism().written(),))):
            self.assertFalse(prism() == other)
            self.assertTrue(prism() != other)

    def test_never_equal_to_another_kind(self):
        for other in (None, 0, True, (), (path(), edge("c")), "Castle(2 parts, 6 halls)", House(1), prism().written(),
                      Castle, prism().parts):
            self.assertFalse(prism() == other)
            self.assertTrue(prism() != other)
            self.assertFalse(other == prism())
        self.assertFalse(Castle(()) == ())
        self.assertFalse(Castle(()) == House(1))
        self.assertFalse(House(1) == Castle(()))

    def test_seventy_two_parts_and_more(self):
        self.check_same(len(edge_castle(MANY)), MANY)
        for many in (73, 74, 200):
            self.check_raises(InvalidParts, "position", None, Castle, edges(letters(many)))
        self.check_raises(InvalidParts, "position", None, Castle, (None,) * 73)
        self.check_raises(InvalidParts, "position", 0, Castle, (None,) * 72)
        self.check_raises(InvalidParts, "position", 71, Castle, (*edges(letters(71)), House(1)))

    def test_not_a_tuple(self):
        for parts in (None, True, 0, "", [], [edge("a")], {}, {0: edge("a")}, edge("a"), House(1), House, Odd()):
            self.check_raises(InvalidParts, "position", None, Castle, parts)

    def test_not_a_house_of_two_halls(self):
        for at, house in enumerate((*WRONG_HOUSES, House(1), Castle(()), prism())):
            with self.subTest(at=at):
                self.check_raises(InvalidParts, "position", 0, Castle, (house,))
                self.check_raises(InvalidParts, "position", 1, Castle, (edge("a"), house, edge("a")))
                self.check_raises(InvalidParts, "position", 2, Castle, (*edges("ab"), house))

    def test_a_colour_in_common(self):
        self.check_raises(InvalidParts, "position", 1, Castle, (path(), edge("b")))
        self.check_raises(InvalidParts, "position", 1, Castle, (path(), path()))
        self.check_raises(InvalidParts, "position", 2, Castle, (path(), edge("c"), sixteen(), None))
        self.check_raises(InvalidParts, "position", 1, Castle, (edge("a"), edge("a"), House(1)))
        self.check_raises(InvalidParts, "position", 1, Castle, (edge("a"), House(1), edge("a")))

    def test_no_bound_on_halls_and_colours(self):
        parts = tuple(House(2, tuple((0, 1, name) for name in letters(MANY * 16)[at::MANY])) for at in range(MANY))
        self.check_same(Castle(parts).colours(), tuple(letters(MANY * 16)))
        self.check_same(long_castle(MANY).hall_count(), 64 ** 72)


class Simple(Case):
    def test_examples(self):
        self.check_same([prism().hall_count(), prism().colours(), prism().origin()], [6, ("a", "b", "c"), (0, 0)])

    def test_no_part(self):
        self.check_same([Castle(()).hall_count(), Castle(()).colours(), Castle(()).origin()], [1, (), ()])

    def test_colours_are_in_order(self):
        castle = Castle((House(3, ((0, 1, "z"), (1, 2, "aa"))), edge("b"), edge("a")))
        self.check_same(castle.colours(), ("a", "aa", "b", "z"))

    def test_as_written(self):
        for castle in small_castles():
            self.check_same(castle.hall_count(), castle.written().halls)
            self.check_same(castle.colours(), castle.written().colours())
            self.check_same(halls_of(castle)[0], castle.origin())

    def test_many_parts(self):
        self.check_same(edge_castle(MANY).hall_count(), 2 ** 72)
        self.check_same(edge_castle(MANY).origin(), (0,) * 72)


class Moved(Case):
    def test_examples(self):
        self.check_returns((2, 1), prism().moved, (0, 0), ("a", "c", "z", "b"))
        self.check_raises(InvalidAddress, "address", (0,), Castle(()).moved, (0,), ("a", "B"))
        self.check_returns((2, 0), prism().moved_times, (0, 0), ("a", "c", "b"), 10 ** 30)

    def test_as_written(self):
        for castle in small_castles():
            halls, house = halls_of(castle), castle.written()
            for row in some_rows(castle):
                goals = walks.effect(house, row)
                for hall, address in enumerate(halls):
                    self.check_same(castle.moved(address, row), halls[goals[hall]])

    def test_times_as_written(self):
        for castle in small_castles():
            halls, house = halls_of(castle), castle.written()
            for row in some_rows(castle):
                for times in (0, 1, 2, 3, 10 ** 30 - 1, 10 ** 30):
                    for hall, address in list(enumerate(halls))[::3]:
                        goal = walks.repeated(house, hall, row, times)
                        self.check_same(castle.moved_times(address, row, times), halls[goal])

    def test_no_part(self):
        self.check_returns((), Castle(()).moved, (), ("a",))
        self.check_returns((), Castle(()).moved_times, (), ("a",), 10 ** 30)

    def test_rows_of_0_and_400_pushes(self):
        self.check_returns((1, 1), prism().moved, (1, 1), ())
        self.check_returns((1, 1), prism().moved_times, (1, 1), (), 10 ** 30)
        self.check_returns((0, 1), prism().moved, (0, 0), ("c",) * 399 + ("z",))
        self.check_returns((2, 0), prism().moved, (0, 0), ("c",) * 398 + ("a", "b"))

    def test_many_halls(self):
        castle = long_castle(MANY)
        names = castle.colours()
        address = (63, 5) + (0,) * 70
        row = (names[3], names[2], names[5])
        self.check_returns((63, 7) + (0,) * 70, castle.moved, address, row)
        # The two colours of a line in turn lead round all 64 halls, every second one on the way out.
        turn = (names[0], names[1])
        self.check_returns((2,) + (0,) * 71, castle.moved_times, castle.origin(), turn, 64 * 10 ** 20 + 1)
        self.check_returns(castle.origin(), castle.moved_times, castle.origin(), turn, 64 * 10 ** 20)
        every = tuple(names[:144])
        self.check_returns((2,) * 72, castle.moved_times, castle.origin(), every, 64 * 10 ** 20 + 1)

    def test_order_of_errors(self):
        self.check_order(
            prism().moved, ((0, 0), [0, 0], InvalidAddress, "address", [0, 0]),
            (("a",), ("a", "B"), InvalidRow, "position", 1))
        self.check_order(
            prism().moved_times, ((0, 0), (3, 0), InvalidAddress, "address", (3, 0)),
            (("a",), ["a"], InvalidRow, "position", None), (0, True, InvalidTimes, "times", True))


class Period(Case):
    def test_examples(self):
        self.check_returns(6, prism().period, ("a", "c", "b"))
        self.check_returns(1, Castle(()).period, ("a",))

    def test_as_written(self):
        for castle in small_castles():
            for row in some_rows(castle):
                self.check_same(castle.period(row), walks.period(castle.written(), row))

    def test_rows_of_0_and_400_pushes(self):
        self.check_returns(1, prism().period, ())
        self.check_returns(1, prism().period, ("z",) * 400)
        self.check_returns(2, prism().period, ("z",) * 399 + ("c",))

    def test_a_large_number(self):
        """Lines of all lengths: the two colours in turn lead round all halls of a line."""
        names = letters(2 * 63)
        castle = Castle(tuple(coloured_line(at + 2, *names[2 * at:2 * at + 2]) for at in range(63)))
        row = castle.colours()
        self.assertEqual(len(row), 125)
        self.check_returns(math.lcm(*range(1, 65)), castle.period, row)


class Distances(Case):
    def test_examples(self):
        self.check_returns(3, prism().distance, (0, 0), (2, 1))
        self.check_returns(("b", "a", "c"), prism().shortest_row, (2, 0), (0, 1))
        self.check_returns(3, prism().shortest_count, (0, 0), (2, 1))

    def test_as_written(self):
        for castle in small_castles():
            halls, house = halls_of(castle), castle.written()
            for (start, one), (goal, other) in itertools.product(enumerate(halls), list(enumerate(halls))[::2]):
                self.check_same(castle.distance(one, other), distances.distance(house, start, goal))
                self.check_same(castle.shortest_row(one, other), distances.shortest_row(house, start, goal))
                self.check_same(castle.shortest_count(one, other), distances.shortest_count(house, start, goal))

    def test_the_same_address(self):
        for castle in (Castle(()), prism(), long_castle(72)):
            for address in (castle.origin(), tuple(1 for house in castle.parts)):
                self.check_returns(0, castle.distance, address, address)
                self.check_returns((), castle.shortest_row, address, address)
                self.check_returns(1, castle.shortest_count, address, address)

    def test_the_least_row(self):
        castle = Castle((House(3, ((0, 1, "b"), (1, 2, "a"))), House(3, ((0, 1, "c"), (1, 2, "aa")))))
        self.check_returns(("b", "a", "c", "aa"), castle.shortest_row, (0, 0), (2, 2))
        self.check_returns(("a", "aa", "b", "c"), castle.shortest_row, (2, 2), (0, 0))
        self.check_returns(("a", "b", "c", "aa"), castle.shortest_row, (2, 0), (0, 2))
        self.check_returns(6, castle.shortest_count, (2, 0), (0, 2))

    def test_rows_of_more_than_400_colours(self):
        castle = long_castle(MANY)
        far = (63,) * 72
        self.check_returns(72 * 63, castle.distance, castle.origin(), far)
        row = castle.shortest_row(far, castle.origin())
        self.check_same(len(row), 72 * 63)
        names = letters(144)
        # A line of 64 halls ends with its first colour on both sides.
        self.check_same(row[:63], tuple(names[:2] * 32)[:63])
        self.check_same(row, tuple(name for at in range(0, 144, 2) for name in (names[at:at + 2] * 32)[:63]))
        count = math.factorial(72 * 63) // math.factorial(63) ** 72
        self.assertTrue(castle.shortest_count(castle.origin(), far) == count)
        self.check_raises(InvalidRow, "position", None, castle.moved, far, row)
        self.check_raises(InvalidRow, "position", None, castle.period, row)
        eight = long_castle(8)
        row = eight.shortest_row((63,) * 6 + (22, 0), eight.origin())
        self.check_same(len(row), 400)
        self.check_returns(eight.origin(), eight.moved, (63,) * 6 + (22, 0), row)

    def test_many_ways(self):
        castle = edge_castle(MANY)
        self.check_returns(math.factorial(72), castle.shortest_count, castle.origin(), (1,) * 72)
        self.check_returns(tuple(letters(72)), castle.shortest_row, castle.origin(), (1,) * 72)
        self.check_returns(16 * 15 * 2, Castle((sixteen().shut((0, 1, "p")), House(2, tuple(
            (0, 1, colour * 2) for colour in SIXTEEN)))).shortest_count, (0, 0), (1, 1))

    def test_order_of_errors(self):
        castle = prism()
        for call in (castle.distance, castle.shortest_row, castle.shortest_count):
            self.check_order(
                call, ((0, 0), (0, True), InvalidAddress, "address", (0, True)),
                ((2, 1), (1, 2), InvalidAddress, "address", (1, 2)))


class Spheres(Case):
    def test_examples(self):
        self.check_returns((1, 2, 2, 1), prism().spheres, (0, 0))
        self.check_returns((1, 3, 2), prism().spheres, (1, 0))
        self.check_returns((1,), Castle(()).spheres, ())

    def test_as_written(self):
        for castle in small_castles():
            for hall, address in enumerate(halls_of(castle)):
                self.check_same(castle.spheres(address), distances.spheres(castle.written(), hall))

    def test_many_parts(self):
        castle = edge_castle(MANY)
        self.check_returns(tuple(math.comb(72, many) for many in range(73)), castle.spheres, (1,) * 72)
        sizes = long_castle(8).spheres((0,) * 8)
        self.check_same(len(sizes), 8 * 63 + 1)
        self.check_same(sum(sizes), 64 ** 8)
        self.check_same(sizes, sizes[::-1])
        self.check_same(sizes[:4], (1, 8, 36, 120))


class RowsBetween(Case):
    def test_examples(self):
        self.check_returns(3, prism().rows_between, (0, 0), (0, 0), 2)
        self.check_returns(2, prism().rows_between, (0, 0), (1, 1), 2)
        self.check_returns(1, Castle(()).rows_between, (), (), 0)
        self.check_returns(0, Castle(()).rows_between, (), (), 1)
        self.check_returns(0, Castle(()).rows_between, (), (), 200)

    def test_as_written(self):
        for castle in small_castles():
            halls, house = halls_of(castle), castle.written()
            for (start, one), (goal, other) in itertools.product(list(enumerate(halls))[::5], enumerate(halls)):
                for length in (0, 1, 2, 5):
                    number = counts.rows_between(house, start, goal, length)
                    self.check_same(castle.rows_between(one, other, length), number)

    def test_length_200(self):
        for castle in (prism(), Castle(edges("abcdef")), Castle((four(), edge("x")))):
            halls, house = halls_of(castle), castle.written()
            for goal in (0, 1, len(halls) - 1):
                number = counts.rows_between(house, 1, goal, 200)
                self.check_same(castle.rows_between(halls[1], halls[goal], 200), number)
        self.check_same(prism().rows_between((0, 0), (0, 0), 0), 1)
        self.check_same(prism().rows_between((0, 0), (0, 1), 0), 0)

    def test_many_parts(self):
        castle = edge_castle(MANY)
        self.check_returns(math.factorial(72), castle.rows_between, castle.origin(), (1,) * 72, 72)
        self.check_returns(0, castle.rows_between, castle.origin(), (1,) * 72, 71)
        self.check_returns(0, castle.rows_between, castle.origin(), (1,) * 72, 73)
        self.check_returns(72, castle.rows_between, castle.origin(), castle.origin(), 2)
        # Every push changes one of 72 bits: rows by their numbers of pushes of each, all even.
        by_bits = sum(math.comb(72, up) * (72 - 2 * up) ** 200 for up in range(73)) // 2 ** 72
        self.check_returns(by_bits, castle.rows_between, castle.origin(), castle.origin(), 200)

    def test_order_of_errors(self):
        self.check_order(
            prism().rows_between, ((0, 0), None, InvalidAddress, "address", None),
            ((2, 1), (2, 1, 0), InvalidAddress, "address", (2, 1, 0)), (200, 201, InvalidLength, "length", 201))

    def test_wrong_lengths(self):
        for at, length in enumerate((-1, 201, 10 ** 39, *NOT_INTEGERS)):
            with self.subTest(at=at):
                self.check_raises(InvalidLength, "length", length, prism().rows_between, (0, 0), (0, 0), length)
                self.check_raises(InvalidLength, "length", length, Castle(()).rows_between, (), (), length)


class Refined(Case):
    def check_parts(self, castle, expected):
        found = castle.refined()
        self.assertIs(type(found), tuple)
        self.assertEqual(len(found), len(expected))
        for house, (halls, doors) in zip(found, expected):
            self.check_house(house, halls, doors)

    def test_example(self):
        house = House(4, ((0, 1, "a"), (0, 2, "c"), (1, 3, "c"), (2, 3, "a")))
        expected = [(2, ((0, 1, colour),)) for colour in "abc"]
        self.check_parts(Castle((house, edge("b"))), expected)

    def test_ordinary_castles(self):
        self.check_parts(Castle(()), [])
        self.check_parts(prism(), [(3, path().doors), (2, ((0, 1, "c"),))])
        self.check_parts(Castle((edge("c"), path())), [(3, path().doors), (2, ((0, 1, "c"),))])
        self.check_parts(Castle((cube(6),)), [(2, ((0, 1, colour),)) for colour in "abcdef"])
        turned = path().renumbered((1, 2, 0))
        self.check_parts(Castle((edge("c"), turned)), [(3, turned.doors), (2, ((0, 1, "c"),))])
        late = House(3, ((0, 1, "b"), (1, 2, "z")))
        self.check_parts(Castle((edge("c"), late, edge("a"))), [
            (2, ((0, 1, "a"),)), (3, late.doors), (2, ((0, 1, "c"),))])

    def test_the_unsplittable_parts_of_all_parts(self):
        for seed, house in enumerate(random_crosses(12)):
            castle = Castle((edge("zz"), house, coloured_line(3, "aaa", "ccc")))
            houses = [smaller for part in castle.parts for smaller in unsplittable_parts(part)]
            expected = sorted([(smaller.colours(), smaller.halls, smaller.doors) for smaller in houses])
            self.check_parts(castle, [(halls, doors) for colours, halls, doors in expected])

    def test_the_finest_split_of_the_written_out_cross(self):
        for castle in small_castles():
            house = castle.written()
            self.check_same(tuple(smaller.colours() for smaller in castle.refined()), lots(house))
            self.assertEqual(castle.refined(), unsplittable_parts(house))

    def test_many_parts(self):
        names = letters(12 * 6)
        cubes = []
        for at in range(12):
            house = cube(6)
            for old, new in zip("abcdef", names[at::12]):
                house = house.recoloured(old, new)
            cubes.append(house)
        self.check_parts(Castle(tuple(cubes)), [(2, ((0, 1, name),)) for name in names])
        self.assertEqual(len(long_castle(MANY).refined()), MANY)


class Written(Case):
    def test_example(self):
        doors = ((0, 1, "b"), (0, 2, "a"), (1, 3, "a"), (2, 3, "b"))
        self.check_gives_house(4, doors, Castle(edges("ab")).written)

    def test_ordinary_castles(self):
        self.check_gives_house(1, (), Castle(()).written)
        self.check_gives_house(4, SQUARE_DOORS, Castle(edges("ba")).written)
        self.check_gives_house(64, cube(6).doors, Castle(edges("abcdef")).written)
        self.check_gives_house(64, line(64).doors, Castle((line(64),)).written)
        for castle in small_castles():
            house = cross(castle.parts)
            self.check_gives_house(house.halls, house.doors, castle.written)

    def test_limits(self):
        self.check_raises(TooManyHalls, "many", 128, Castle(edges("abcdefg")).written)
        self.check_raises(TooManyHalls, "many", 66, Castle((line(33), edge("c"))).written)
        self.check_raises(TooManyHalls, "many", 64 ** 72, long_castle(72).written)
        self.check_raises(TooManyHalls, "many", 2 ** 17, Castle(edges((*SIXTEEN, "q"))).written)
        self.check_raises(TooManyColours, "many", 17, Castle((sixteen(), edge("q"))).written)
        others = House(2, tuple((0, 1, colour * 2) for colour in SIXTEEN))
        self.check_raises(TooManyColours, "many", 32, Castle((sixteen(), others)).written)


class WrongArguments(Case):
    def calls_with_addresses(self, castle):
        """Each call with an address, as a function of it alone."""
        right = castle.origin()
        yield castle.moved, lambda address: (address, ())
        yield castle.moved_times, lambda address: (address, (), 1)
        yield castle.spheres, lambda address: (address,)
        for call in (castle.distance, castle.shortest_row, castle.shortest_count):
            yield call, lambda address: (address, right)
            yield call, lambda address: (right, address)
        yield castle.rows_between, lambda address: (address, right, 1)
        yield castle.rows_between, lambda address: (right, address, 1)

    def test_wrong_addresses(self):
        wrong = [
            (), (0,), (0, 0, 0), (3, 0), (0, 2), (-1, 0), (0, -1), [0, 0], ([0], [0]), (0, [0]), (True, 0), (0, False),
            (1, True), ("0", 0), (None, 0), (0, None), ((0, 0),), (0, (0,)), None, 0, True, "00", {}, {0: 0, 1: 0},
            (10 ** 39, 0), Odd(), (0, Odd()), (Odd(), 0), prism(), path(),
        ]
        for call, args in self.calls_with_addresses(prism()):
            for at, address in enumerate(wrong):
                with self.subTest(call.__name__, at=at):
                    self.check_raises(InvalidAddress, "address", address, call, *args(address))

    def test_wrong_addresses_of_no_part(self):
        for call, args in self.calls_with_addresses(Castle(())):
            for address in ((0,), None, [], 0, "", {}, Odd()):
                self.check_raises(InvalidAddress, "address", address, call, *args(address))
            call(*args(()))

    def test_wrong_rows(self):
        castle = prism()
        calls = ((castle.moved, ((0, 0),), ()), (castle.moved_times, ((0, 0),), (1,)), (castle.period, (), ()))
        for call, before, after in calls:
            for row in (None, True, 0, "ab", ["a"], [], {}, {"a": 1}, Odd(), ("a",) * 401, (None,) * 401, ("a",) * 1000):
                self.check_raises(InvalidRow, "position", None, call, *before, row, *after)
            for at, colour in enumerate(NOT_COLOURS):
                with self.subTest(call.__name__, at=at):
                    self.check_raises(InvalidRow, "position", 0, call, *before, (colour,), *after)
                    self.check_raises(InvalidRow, "position", 2, call, *before, ("a", "z", colour, None), *after)
            self.check_raises(InvalidRow, "position", 399, call, *before, ("a",) * 399 + ("A",), *after)
            call(*before, ("a",) * 400, *after)

    def test_wrong_times(self):
        for at, times in enumerate((-1, 10 ** 30 + 1, 10 ** 39, *NOT_INTEGERS)):
            with self.subTest(at=at):
                self.check_raises(InvalidTimes, "times", times, prism().moved_times, (0, 0), ("a",), times)
                self.check_raises(InvalidTimes, "times", times, Castle(()).moved_times, (), (), times)
