"""Points 42 to 45, and what point 3 says of exchanges."""

import itertools
import math

from doorlots.errors import InvalidColours, InvalidHouse, InvalidRow
from doorlots.houses import House
from doorlots.lots import are_bound, lots
from doorlots.rows import are_exchangeable, exchange_count, least_row, projection
from doorlots.walks import effect
from tests.helper import (
    NOT_COLOURS, SIXTEEN, Case, Odd, crossed, cube, four, line, path, random_crosses, random_houses, sixteen, square,
)

# Of each value that is no row of colours of the square the position that is reported.
WRONG_ROWS = (
    (None, None), (None, True), (None, 0), (None, "ab"), (None, ""), (None, []), (None, ["a"]), (None, {}),
    (None, {"a": 1}), (None, Odd()), (None, House(1)), (None, ("a",) * 401), (None, (None,) * 401),
    (None, ("z",) * 1000), (0, ("z",)), (0, ("",)), (0, ("A",)), (0, (True,)), (0, (0,)), (0, (("a",),)), (0, (["a"],)),
    (0, ("ab",)), (0, (None, "c")), (1, ("a", "c")), (1, ("a", "x", "B")), (1, ("a", "B", "x")), (2, ("a", "b", "a b")),
    (3, ("b", "b", "b", Odd())), (399, ("a",) * 399 + ("c",)), (0, ("c",) * 400),
)


def prism():
    """A cross of a path with the colours a and c and an edge of the colour b."""
    return House(*crossed([House(3, ((0, 1, "a"), (1, 2, "c"))), House(2, ((0, 1, "b"),))]))


def free_pairs(house):
    return [pair for pair in itertools.permutations(house.colours(), 2) if not are_bound(house, *pair)]


def obtained(row, free):
    """All rows that can be obtained by exchanges of these pairs, one exchange after the other."""
    found, waiting = {row}, [row]
    while waiting:
        old = waiting.pop()
        for at in range(len(old) - 1):
            one, other = old[at:at + 2]
            new = (*old[:at], other, one, *old[at + 2:])
            if (one, other) in free and new not in found:
                found.add(new)
                waiting.append(new)
    return found


def rows_up_to(colours, length):
    for many in range(length + 1):
        yield from itertools.product(colours, repeat=many)


def cases():
    """Houses with rows of their colours, and all rows that can be obtained from these."""
    for house, length in ((House(1), 3), (path(), 4), (square(), 6), (four(), 3), (prism(), 5), (cube(3), 5)):
        free = free_pairs(house)
        for row in rows_up_to(house.colours(), length):
            yield house, row, obtained(row, free)
    for house in [*random_houses(16), *random_crosses(24)]:
        free = free_pairs(house)
        for row in itertools.islice(rows_up_to(house.colours(), 4), 0, None, 97):
            yield house, row, obtained(row, free)


class Projection(Case):
    def test_example(self):
        self.check_returns(("a", "c", "a"), projection, ("a", "b", "c", "a"), ("a", "c"))

    def test_ordinary_rows(self):
        self.check_returns((), projection, (), ())
        self.check_returns((), projection, (), ("a", "z"))
        self.check_returns((), projection, ("a", "b"), ())
        self.check_returns((), projection, ("a", "b"), ("c", "d"))
        self.check_returns(("b", "a", "b"), projection, ("b", "a", "b"), ("a", "b", "purple"))
        self.check_returns(("red", "red"), projection, ("red", "blue", "red"), ("red",))

    def test_a_colour_is_not_its_letters(self):
        self.check_returns(("ab",), projection, ("a", "ab", "b"), ("ab",))
        self.check_returns(("a", "b"), projection, ("a", "ab", "b"), ("a", "b"))

    def test_many_pushes_and_colours(self):
        self.check_returns(("a",) * 200, projection, ("a", "b") * 200, ("a",))
        many = tuple(sorted("".join(word) for word in itertools.product("abcdefghijklmnopqrstuvwxyz", repeat=2)))
        self.check_returns(many[:400], projection, many[:400], many)
        self.check_raises(InvalidRow, "position", None, projection, many[:401], many)

    def test_by_the_words(self):
        for row in rows_up_to("abc", 4):
            for many in range(4):
                for colours in itertools.combinations("abc", many):
                    self.check_same(projection(row, colours), tuple(push for push in row if push in colours))

    def test_wrong_rows(self):
        for at, (position, row) in enumerate(WRONG_ROWS):
            if not isinstance(row, tuple) or not {"z", "c", "x", "ab"} & {push for push in row if type(push) is str}:
                with self.subTest(at=at):
                    self.check_raises(InvalidRow, "position", position, projection, row, ("a",))
        for at, colour in enumerate(NOT_COLOURS):
            with self.subTest(colour=at):
                self.check_raises(InvalidRow, "position", 1, projection, ("a", colour), ("a",))
        self.check_raises(InvalidRow, "position", 2, projection, ("x", "y", "Z"), ())
        self.check_raises(InvalidRow, "position", 399, projection, ("z",) * 399 + ("Z",), ())

    def test_wrong_colours(self):
        wrong = (
            (None, None), (None, "a"), (None, ""), (None, []), (None, ["a"]), (None, {}), (None, 0), (None, Odd()),
            (0, (0,)), (0, (True, "a")), (0, ("A",)), (0, (("a",),)), (0, (["a"],)), (0, (Odd(), "b")), (0, ("",)),
            (1, ("a", "a")), (1, ("b", "a")), (1, ("b", "b", None)), (1, ("ab", "aa", 0)), (2, ("a", "b", "ab")),
            (2, ("a", "b", False)), (16, (*SIXTEEN, "p")),
        )
        for at, (position, colours) in enumerate(wrong):
            with self.subTest(at=at):
                self.check_raises(InvalidColours, "position", position, projection, ("a",), colours)
        for at, colour in enumerate(NOT_COLOURS):
            with self.subTest(colour=at):
                self.check_raises(InvalidColours, "position", 1, projection, ("a",), ("a", colour))

    def test_order_of_errors(self):
        self.check_order(
            projection, (("a",), ("a", 1), InvalidRow, "position", 1), (("a",), ["a"], InvalidColours, "position", None))


class LeastRow(Case):
    def test_examples(self):
        self.check_returns(("a", "b", "b"), least_row, square(), ("b", "a", "b"))
        self.check_returns(("b", "a", "b"), least_row, path(), ("b", "a", "b"))
        self.check_raises(InvalidRow, "position", 1, least_row, House(2, ((0, 1, "a"),)), ("a", "x", "B"))

    def test_no_push(self):
        for house in (House(1), square(), sixteen()):
            self.check_returns((), least_row, house, ())

    def test_bound_colours_keep_their_order(self):
        self.check_returns(("b", "b", "c", "a"), least_row, prism(), ("c", "b", "a", "b"))
        self.check_returns(("a", "b", "c", "a"), least_row, prism(), ("b", "a", "c", "a"))
        self.check_returns(SIXTEEN[::-1], least_row, sixteen(), SIXTEEN[::-1])

    def test_many_pushes(self):
        self.check_returns(("a",) * 200 + ("b",) * 200, least_row, square(), ("b", "a") * 200)
        self.check_returns(("b", "a") * 200, least_row, path(), ("b", "a") * 200)
        row = tuple("fbdace" * 66)
        self.check_returns(tuple(sorted(row)), least_row, cube(6), row)

    def test_it_is_the_least_that_can_be_obtained(self):
        for house, row, rows in cases():
            self.check_same(least_row(house, row), min(rows))

    def test_the_effect_is_the_same(self):
        for house, row, rows in cases():
            self.assertEqual({effect(house, other) for other in (least_row(house, row), *rows)}, {effect(house, row)})


class ExchangeCount(Case):
    def test_example(self):
        self.check_returns(3, exchange_count, square(), ("b", "a", "b"))

    def test_ordinary_rows(self):
        self.check_returns(1, exchange_count, House(1), ())
        self.check_returns(1, exchange_count, square(), ())
        self.check_returns(1, exchange_count, square(), ("a", "a", "a"))
        self.check_returns(1, exchange_count, path(), ("b", "a", "b"))
        self.check_returns(1, exchange_count, sixteen(), SIXTEEN)
        self.check_returns(math.factorial(6), exchange_count, cube(6), tuple("fbdace"))
        self.check_returns(4, exchange_count, prism(), ("a", "c", "a", "b"))

    def test_many_pushes(self):
        self.check_returns(math.comb(400, 200), exchange_count, square(), ("b", "a") * 200)
        self.check_returns(math.comb(400, 1), exchange_count, square(), ("a",) * 399 + ("b",))
        every = math.factorial(396) // math.factorial(66) ** 6
        self.check_returns(every, exchange_count, cube(6), tuple("fbdace" * 66))
        self.check_returns(1, exchange_count, line(64), ("a", "b") * 200)

    def test_all_rows_that_can_be_obtained(self):
        for house, row, rows in cases():
            self.check_same(exchange_count(house, row), len(rows))


class AreExchangeable(Case):
    def test_examples(self):
        self.check_returns(True, are_exchangeable, square(), ("a", "b"), ("b", "a"))
        self.check_returns(False, are_exchangeable, square(), ("a", "b"), ("a", "a"))

    def test_ordinary_rows(self):
        self.check_returns(True, are_exchangeable, House(1), (), ())
        self.check_returns(True, are_exchangeable, path(), ("a", "b"), ("a", "b"))
        self.check_returns(False, are_exchangeable, path(), ("a", "b"), ("b", "a"))
        self.check_returns(False, are_exchangeable, square(), ("a", "b"), ("a", "b", "b"))
        self.check_returns(False, are_exchangeable, square(), (), ("a",))
        self.check_returns(False, are_exchangeable, square(), ("a", "a", "b"), ("a", "b", "b"))
        self.check_returns(True, are_exchangeable, prism(), ("a", "c", "b", "b"), ("b", "a", "b", "c"))
        self.check_returns(False, are_exchangeable, prism(), ("a", "c", "b", "b"), ("b", "c", "b", "a"))

    def test_the_same_effect_is_not_enough(self):
        self.assertEqual(effect(square(), ("a", "a")), effect(square(), ()))
        self.check_returns(False, are_exchangeable, square(), ("a", "a"), ())
        self.check_returns(False, are_exchangeable, square(), ("a", "a"), ("b", "b"))

    def test_many_pushes(self):
        self.check_returns(True, are_exchangeable, square(), ("a", "b") * 200, ("b",) * 200 + ("a",) * 200)
        self.check_returns(False, are_exchangeable, square(), ("a", "b") * 200, ("b",) * 201 + ("a",) * 199)

    def test_all_pairs_of_rows(self):
        for house, length in ((House(1), 2), (path(), 3), (square(), 4), (prism(), 3), (cube(3), 3)):
            rows = list(rows_up_to(house.colours(), length))
            free = free_pairs(house)
            for row in rows:
                found = obtained(row, free)
                for other in rows:
                    self.check_same(are_exchangeable(house, row, other), other in found)

    def test_by_the_projections_to_the_lots(self):
        for house in random_crosses(24):
            for row, other in itertools.islice(itertools.product(rows_up_to(house.colours(), 3), repeat=2), 0, None, 1237):
                same = all(projection(row, lot) == projection(other, lot) for lot in lots(house))
                self.check_same(are_exchangeable(house, row, other), same)
                if same:
                    self.assertEqual(effect(house, row), effect(house, other))


class WrongArguments(Case):
    def test_wrong_houses(self):
        self.check_wrong_houses(least_row, ("a",))
        self.check_wrong_houses(exchange_count, ("a",))
        self.check_wrong_houses(are_exchangeable, ("a",), ("a",))

    def test_wrong_rows(self):
        for at, (position, row) in enumerate(WRONG_ROWS):
            with self.subTest(at=at):
                self.check_raises(InvalidRow, "position", position, least_row, square(), row)
                self.check_raises(InvalidRow, "position", position, exchange_count, square(), row)
                self.check_raises(InvalidRow, "position", position, are_exchangeable, square(), row, ("a",))
                self.check_raises(InvalidRow, "position", position, are_exchangeable, square(), ("a",), row)

    def test_wrong_colours(self):
        for at, colour in enumerate(NOT_COLOURS):
            with self.subTest(at=at):
                self.check_raises(InvalidRow, "position", 0, least_row, square(), (colour,))
                self.check_raises(InvalidRow, "position", 1, exchange_count, square(), ("b", colour, "z"))
                self.check_raises(InvalidRow, "position", 2, are_exchangeable, square(), (), ("b", "a", colour))

    def test_a_house_without_colours(self):
        self.check_raises(InvalidRow, "position", 0, least_row, House(1), ("a",))
        self.check_raises(InvalidRow, "position", 0, exchange_count, House(1), ("a",))
        self.check_raises(InvalidRow, "position", 0, are_exchangeable, House(1), (), ("a",))

    def test_order_of_errors(self):
        for call in (least_row, exchange_count):
            self.check_order(
                call, (square(), None, InvalidHouse, "house", None), (("a",), ("c",), InvalidRow, "position", 0))
        self.check_order(
            are_exchangeable, (square(), [], InvalidHouse, "house", []),
            (("a", "b"), ("a", "c"), InvalidRow, "position", 1), (("a",), ["a"], InvalidRow, "position", None))
