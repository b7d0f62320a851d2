"""Points 21 to 24, and the rows of points 5 and 7."""

import itertools

from doorlots.errors import InvalidHall, InvalidHouse, InvalidRow, InvalidTimes
from doorlots.houses import House
from doorlots.walks import effect, period, repeated, walk
from tests.helper import (
    NOT_COLOURS, NOT_INTEGERS, SIXTEEN, Case, Odd, cube, led, line, path, pushed, random_houses, sixteen, small_houses,
    square,
)

ROW = ("a", "b")
MOST = 10 ** 30
CYCLES = (3, 5, 7, 11, 13, 17)
# Of each wrong row the position that is reported.
WRONG_ROWS = (
    (None, None), (None, True), (None, 0), (None, "a"), (None, ""), (None, []), (None, ["a"]), (None, ["a", "b"]),
    (None, {}), (None, {"a": 1}), (None, Odd()), (None, House(1)), (None, ("a",) * 401), (None, (None,) * 401),
    (None, ("a",) * 1000), (None, ["a"] * 401), (0, ("",)), (0, ("A",)), (0, (("a",),)), (0, (["a"],)), (0, ("a b",)),
    (0, (True,)), (0, (0,)), (0, ("crimson",)), (0, (None, "A")), (1, ("b", "B")), (1, ("a", None, "a", Odd())),
    (2, ("a", "z", "a1", "a")), (399, ("a",) * 399 + ("A",)), (0, (Odd(),) * 400), (399, ("a",) * 399 + (Odd(),)),
)


def rows_up_to(colours, length):
    for many in range(length + 1):
        yield from itertools.product(colours, repeat=many)


def after_times(goals, times):
    """Where the halls are led by so many repetitions, by repeated squaring."""
    result = tuple(range(len(goals)))
    while times > 0:
        if times % 2 == 1:
            result = tuple(goals[hall] for hall in result)
        goals = tuple(goals[hall] for hall in goals)
        times //= 2
    return result


def lines_of(lengths):
    """A house of lines of so many halls in the colours a and b, hung one on the other by doors of the colour c or d."""
    doors, start = [], 0
    for number, length in enumerate(lengths):
        if start > 0:
            doors.append((start - 1, start, "cd"[number % 2]))
        doors.extend((start + at, start + at + 1, "ab"[at % 2]) for at in range(length - 1))
        start += length
    return House(start, tuple(sorted(doors)))


class Rows(Case):
    """The row is the last argument of three functions, and the third of four in `repeated`."""

    def test_wrong_rows(self):
        for at, (position, row) in enumerate(WRONG_ROWS):
            with self.subTest(at=at):
                self.check_raises(InvalidRow, "position", position, walk, path(), 0, row)
                self.check_raises(InvalidRow, "position", position, effect, path(), row)
                self.check_raises(InvalidRow, "position", position, repeated, path(), 0, row, 1)
                self.check_raises(InvalidRow, "position", position, period, path(), row)

    def test_wrong_colours(self):
        for at, colour in enumerate(NOT_COLOURS):
            with self.subTest(at=at):
                self.check_raises(InvalidRow, "position", 0, effect, path(), (colour,))
                self.check_raises(InvalidRow, "position", 2, walk, path(), 0, ("a", "b", colour, None))

    def test_rows_of_no_push(self):
        for house in (House(1), path(), line(64), sixteen()):
            last = house.halls - 1
            self.check_returns((last,), walk, house, last, ())
            self.check_returns(tuple(range(house.halls)), effect, house, ())
            self.check_returns(last, repeated, house, last, (), MOST)
            self.check_returns(1, period, house, ())

    def test_rows_of_400_and_401_pushes(self):
        row = ROW * 200
        self.check_returns((0, 1, 2, 2, 1, 0), lambda house, hall, row: walk(house, hall, row)[:6], path(), 0, row)
        self.check_same(len(walk(path(), 0, row)), 401)
        self.check_returns((0, 2, 1)[200 % 3], lambda house, row: effect(house, row)[0], path(), row)
        self.check_returns((0, 2, 1)[400 % 3], repeated, path(), 0, row, 2)
        self.check_returns(3, period, path(), row)
        self.check_raises(InvalidRow, "position", None, walk, path(), 0, row + ("a",))
        self.check_raises(InvalidRow, "position", None, effect, path(), row + ("a",))
        self.check_raises(InvalidRow, "position", None, repeated, path(), 0, row + ("a",), 0)
        self.check_raises(InvalidRow, "position", None, period, path(), row + ("a",))

    def test_colours_that_the_house_does_not_have(self):
        self.check_returns((2, 2, 2), walk, path(), 2, ("z", "purple"))
        self.check_returns((0, 1, 1, 2), walk, path(), 0, ("a", "c", "b"))
        self.check_returns((0, 1, 2), effect, path(), ("z", "z", "y"))
        self.check_returns(0, repeated, House(1), 0, ("a", "b"), MOST)
        self.check_returns(1, period, House(1), ("a", "b"))
        self.check_returns(1, period, square(), ("c",) * 400)


class Walk(Case):
    def test_examples(self):
        self.check_returns((0, 0, 1, 2), walk, path(), 0, ("b", "a", "b"))
        self.check_raises(InvalidHall, "hall", 1, walk, House(1), 1, ("b", "B"))
        self.check_raises(InvalidRow, "position", 1, walk, House(1), 0, ("b", "B"))

    def test_ordinary_walks(self):
        self.check_returns((0, 1, 3, 2, 0), walk, square(), 0, ("a", "b", "a", "b"))
        self.check_returns((3, 2, 3), walk, square(), 3, ("a", "a"))
        self.check_returns((0, *[1, 0] * 8), walk, sixteen(), 0, SIXTEEN)
        self.check_returns(tuple(range(64)), walk, line(64), 0, ROW * 31 + ("a",))

    def test_small_houses(self):
        for house in small_houses():
            for hall, row in itertools.product(range(house.halls), rows_up_to("abd", 3)):
                expected = [hall]
                for colour in row:
                    expected.append(pushed(house, expected[-1], colour))
                self.check_same(walk(house, hall, row), tuple(expected))

    def test_wrong_houses_and_halls(self):
        self.check_wrong_houses(walk, 0, ROW)
        self.check_wrong_halls(walk, path(), ROW)
        self.check_wrong_halls(walk, House(1), ())
        self.check_wrong_halls(walk, line(64), ROW)

    def test_order_of_errors(self):
        self.check_order(
            walk, (path(), None, InvalidHouse, "house", None), (2, 3, InvalidHall, "hall", 3),
            (ROW, ("a", "A"), InvalidRow, "position", 1))


class Effect(Case):
    def test_example(self):
        self.check_returns((2, 0, 1), effect, path(), ("a", "b"))

    def test_ordinary_rows(self):
        self.check_returns((0,), effect, House(1), ("a",))
        self.check_returns((1, 0, 2), effect, path(), ("a",))
        self.check_returns((3, 2, 1, 0), effect, square(), ("b", "a"))
        self.check_returns((1, 0), effect, sixteen(), SIXTEEN + ("a",))
        self.check_returns(tuple(63 - hall for hall in range(64)), effect, cube(6), tuple("fbcdea"))

    def test_it_is_the_end_of_each_walk(self):
        for house in [*small_houses(), *random_houses(24)]:
            for row in rows_up_to("abcz", 3):
                expected = tuple(led(house, hall, row) for hall in range(house.halls))
                self.check_same(effect(house, row), expected)
                self.check_same(tuple(walk(house, hall, row)[-1] for hall in range(house.halls)), expected)

    def test_wrong_houses(self):
        self.check_wrong_houses(effect, ROW)

    def test_order_of_errors(self):
        self.check_order(
            effect, (path(), (3, ()), InvalidHouse, "house", (3, ())), (ROW, ["a"], InvalidRow, "position", None))


class Repeated(Case):
    def test_example(self):
        self.check_returns(2, repeated, path(), 0, ROW, 10 ** 30)

    def test_few_times(self):
        for times, goal in enumerate((0, 2, 1, 0, 2, 1, 0)):
            self.check_returns(goal, repeated, path(), 0, ROW, times)
        for hall in range(4):
            self.check_returns(hall, repeated, square(), hall, ("a", "b", "a"), 0)
            self.check_returns((2, 3, 0, 1)[hall], repeated, square(), hall, ("a", "b", "a"), 10 ** 30 - 1)
            self.check_returns(hall, repeated, square(), hall, ("a", "b", "a"), 10 ** 30)

    def test_step_by_step(self):
        for house in random_houses(40):
            for row in (("a",), ROW, ("a", "b", "c"), ("c", "a", "b", "a", "z")):
                for hall in range(house.halls):
                    goal = hall
                    for times in range(14):
                        self.check_same(repeated(house, hall, row, times), goal)
                        goal = led(house, goal, row)

    def test_many_times(self):
        for house in [line(64), cube(6), lines_of(CYCLES), *random_houses(24)]:
            for row in (ROW, ("a", "b", "c", "a", "d") * 80):
                goals = tuple(led(house, hall, row) for hall in range(house.halls))
                for times in (63, 64, 65, 2 ** 64, 10 ** 29 + 7, 10 ** 30 - 1, 10 ** 30):
                    expected = after_times(goals, times)
                    for hall in range(0, house.halls, 7):
                        self.check_same(repeated(house, hall, row, times), expected[hall])

    def test_wrong_times(self):
        for at, times in enumerate((-1, -10 ** 30, 10 ** 30 + 1, 10 ** 31, *NOT_INTEGERS)):
            with self.subTest(at=at):
                self.check_raises(InvalidTimes, "times", times, repeated, path(), 0, ROW, times)
                self.check_raises(InvalidTimes, "times", times, repeated, House(1), 0, (), times)

    def test_wrong_houses_and_halls(self):
        self.check_wrong_houses(repeated, 0, ROW, 1)
        self.check_wrong_halls(repeated, path(), ROW, 1)

    def test_order_of_errors(self):
        self.check_order(
            repeated, (path(), [], InvalidHouse, "house", []), (0, True, InvalidHall, "hall", True),
            (ROW, ("a", "b", 1), InvalidRow, "position", 2), (1, True, InvalidTimes, "times", True))


class Period(Case):
    def test_examples(self):
        self.check_returns(3, period, path(), ("a", "b"))
        self.check_returns(2, period, path(), ("a",))
        self.check_returns(1, period, path(), ())

    def test_ordinary_rows(self):
        self.check_returns(2, period, square(), ("a", "b"))
        self.check_returns(1, period, square(), ("a", "b", "a", "b"))
        self.check_returns(1, period, square(), ("a", "a"))
        self.check_returns(2, period, sixteen(), ("p",))
        self.check_returns(64, period, line(64), ROW)
        self.check_returns(32, period, line(64), ROW * 2)
        self.check_returns(1, period, House(1), ("a",))

    def test_the_least_common_multiple(self):
        self.check_returns(12, period, lines_of((4, 6)), ROW)
        self.check_returns(30, period, lines_of((6, 10, 15)), ROW)
        self.check_returns(3 * 5 * 7 * 11 * 13 * 17, period, lines_of(CYCLES), ROW)

    def test_step_by_step(self):
        for house in [*small_houses(), *random_houses(60)]:
            for row in rows_up_to("abc", 2):
                goals = tuple(led(house, hall, row) for hall in range(house.halls))
                many, reached = 1, goals
                while reached != tuple(range(house.halls)):
                    many, reached = many + 1, tuple(goals[hall] for hall in reached)
                self.check_same(period(house, row), many)

    def test_a_period_may_be_the_number_of_times(self):
        house = lines_of(CYCLES)
        many = period(house, ROW)
        for hall in range(house.halls):
            self.check_same(repeated(house, hall, ROW, many), hall)

    def test_wrong_houses(self):
        self.check_wrong_houses(period, ROW)

    def test_order_of_errors(self):
        self.check_order(
            period, (path(), "house 1", InvalidHouse, "house", "house 1"), (ROW, ("",), InvalidRow, "position", 0))
