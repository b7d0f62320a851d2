"""Point 50."""

import itertools

from doorlots.counts import rows_between
from doorlots.errors import InvalidHall, InvalidHouse, InvalidLength
from doorlots.houses import House
from tests.helper import (
    NOT_INTEGERS, SIXTEEN, Case, cube, edge, four, led, line, path, pushed, random_house, random_houses, sixteen,
    small_houses, square,
)


def table(house, length):
    """For each two halls the number of rows, by powers of the table of single pushes."""
    halls = range(house.halls)
    one = [[sum(pushed(house, start, colour) == goal for colour in house.colours()) for goal in halls] for start in halls]
    power = [[int(start == goal) for goal in halls] for start in halls]
    for step in range(length):
        power = [[sum(power[start][via] * one[via][goal] for via in halls) for goal in halls] for start in halls]
    return power


class RowsBetween(Case):
    def test_examples(self):
        self.check_returns(1, rows_between, path(), 0, 0, 0)
        self.check_returns(2, rows_between, path(), 0, 0, 2)
        self.check_returns(1, rows_between, path(), 0, 2, 2)
        self.check_returns(0, rows_between, House(1), 0, 0, 3)

    def test_ordinary_houses(self):
        self.check_returns(0, rows_between, edge("a"), 0, 0, 1)
        self.check_returns(1, rows_between, edge("a"), 0, 1, 1)
        self.check_returns(1, rows_between, path(), 0, 0, 1)
        self.check_returns(0, rows_between, path(), 1, 1, 1)
        self.check_returns(2, rows_between, square(), 1, 2, 2)
        self.check_returns(0, rows_between, square(), 1, 2, 3)
        self.check_returns(16 ** 3, rows_between, sixteen(), 0, 1, 3)
        self.check_returns(0, rows_between, sixteen(), 0, 1, 4)
        self.check_returns(2, rows_between, four(), 0, 1, 2)

    def test_length_0(self):
        for house in (House(1), path(), sixteen(), line(64)):
            self.check_returns(1, rows_between, house, house.halls - 1, house.halls - 1, 0)
        self.check_returns(0, rows_between, path(), 0, 2, 0)
        self.check_returns(0, rows_between, line(64), 63, 0, 0)

    def test_a_house_of_one_hall(self):
        self.check_returns(1, rows_between, House(1), 0, 0, 0)
        for length in (1, 2, 200):
            self.check_returns(0, rows_between, House(1), 0, 0, length)

    def test_length_200(self):
        self.check_returns(1, rows_between, edge("a"), 0, 0, 200)
        self.check_returns(0, rows_between, edge("a"), 0, 1, 200)
        self.check_returns(2 ** 199, rows_between, square(), 0, 3, 200)
        self.check_returns(16 ** 200, rows_between, sixteen(), 1, 1, 200)
        self.check_returns(6 ** 0, rows_between, cube(6), 5, 5, 0)
        self.check_same(rows_between(path(), 0, 1, 200), table(path(), 200)[0][1])

    def test_all_rows_are_somewhere(self):
        for house in (path(), cube(6), line(64), random_house(2, 64, SIXTEEN, 200)):
            for length in (0, 1, 63, 199, 200):
                total = sum(rows_between(house, 1, goal, length) for goal in range(house.halls))
                self.assertEqual(total, len(house.colours()) ** length)

    def test_all_rows(self):
        for house in [*small_houses(), four(), *random_houses(24)]:
            for length in range(4 if len(house.colours()) < 4 else 3):
                ends = [[led(house, start, row) for row in itertools.product(house.colours(), repeat=length)]
                        for start in range(house.halls)]
                for start, goal in itertools.product(range(house.halls), repeat=2):
                    self.check_same(rows_between(house, start, goal, length), ends[start].count(goal))

    def test_powers(self):
        for house in (path(), four(), line(6), *random_houses(10)):
            for length in (7, 20):
                rows = table(house, length)
                for start, goal in itertools.product(range(house.halls), repeat=2):
                    self.check_same(rows_between(house, start, goal, length), rows[start][goal])


class WrongArguments(Case):
    def test_wrong_houses(self):
        self.check_wrong_houses(rows_between, 0, 0, 0)

    def test_wrong_halls(self):
        self.check_wrong_halls(rows_between, path(), 0, 5)
        self.check_wrong_halls(rows_between, path(), 0, 5, at=2)

    def test_wrong_lengths(self):
        for at, length in enumerate((-1, 201, 202, 10 ** 39, *NOT_INTEGERS)):
            with self.subTest(at=at):
                self.check_raises(InvalidLength, "length", length, rows_between, path(), 0, 1, length)
                self.check_raises(InvalidLength, "length", length, rows_between, House(1), 0, 0, length)

    def test_order_of_errors(self):
        self.check_order(
            rows_between, (path(), 4, InvalidHouse, "house", 4), (0, True, InvalidHall, "hall", True),
            (2, 3, InvalidHall, "hall", 3), (200, 201, InvalidLength, "length", 201))
