"""Points 25 to 28."""

import itertools
import math

from doorlots.distances import distance, shortest_count, shortest_row, spheres
from doorlots.errors import InvalidHall, InvalidHouse
from doorlots.houses import House
from doorlots.walks import walk
from tests.helper import SIXTEEN, Case, cube, four, led, line, path, random_houses, sixteen, small_houses, square

THREE = (distance, shortest_row, shortest_count)


def table(house):
    """All distances, by going through each hall in between (Floyd and Warshall)."""
    halls = range(house.halls)
    far = {(one, other): 0 if one == other else 1000 for one in halls for other in halls}
    for low, high, colour in house.doors:
        far[low, high] = far[high, low] = 1
    for via, one, other in itertools.product(halls, repeat=3):
        far[one, other] = min(far[one, other], far[one, via] + far[via, other])
    return far


def shortest_rows(house, start, goal):
    """All shortest rows in ascending order, by trying all rows."""
    for many in itertools.count():
        rows = [row for row in itertools.product(house.colours(), repeat=many) if led(house, start, row) == goal]
        if rows:
            return rows


class Distance(Case):
    def test_example(self):
        self.check_returns(2, distance, square(), 1, 2)

    def test_ordinary_halls(self):
        self.check_returns(1, distance, square(), 0, 1)
        self.check_returns(2, distance, square(), 0, 3)
        self.check_returns(2, distance, path(), 2, 0)
        self.check_returns(1, distance, four(), 0, 3)
        self.check_returns(1, distance, sixteen(), 1, 0)
        self.check_returns(63, distance, line(64), 0, 63)
        self.check_returns(63, distance, line(64), 63, 0)
        self.check_returns(6, distance, cube(6), 0, 63)

    def test_the_same_hall(self):
        for house in (House(1), path(), square(), line(64)):
            for hall in range(house.halls):
                self.check_returns(0, distance, house, hall, hall)

    def test_all_halls(self):
        for house in [line(20), cube(4), *small_houses(), *random_houses(60)]:
            far = table(house)
            for start, goal in itertools.product(range(house.halls), repeat=2):
                self.check_same(distance(house, start, goal), far[start, goal])

    def test_least_number_of_colours_in_a_row(self):
        for house in small_houses():
            for start, goal in itertools.product(range(house.halls), repeat=2):
                self.check_same(distance(house, start, goal), len(shortest_rows(house, start, goal)[0]))


class ShortestRow(Case):
    def test_example(self):
        self.check_returns(("a", "b"), shortest_row, square(), 1, 2)

    def test_ordinary_halls(self):
        self.check_returns(("a",), shortest_row, square(), 2, 3)
        self.check_returns(("b", "a"), shortest_row, path(), 2, 0)
        self.check_returns(("a",), shortest_row, sixteen(), 0, 1)
        self.check_returns(tuple("abcdef"), shortest_row, cube(6), 63, 0)
        self.check_returns(("c",), shortest_row, four(), 1, 2)
        self.check_returns(("a", "b") * 31 + ("a",), shortest_row, line(64), 63, 0)

    def test_the_same_hall(self):
        for house in (House(1), path(), sixteen(), line(64)):
            self.check_returns((), shortest_row, house, house.halls - 1, house.halls - 1)

    def test_the_least_row_is_chosen_colour_by_colour(self):
        house = House(4, ((0, 1, "b"), (0, 2, "a"), (1, 3, "a"), (2, 3, "z")))
        self.check_returns(("a", "z"), shortest_row, house, 0, 3)
        self.check_returns(("a", "b"), shortest_row, house, 3, 0)
        house = House(4, ((0, 1, "aa"), (0, 2, "b"), (1, 3, "z"), (2, 3, "a")))
        self.check_returns(("aa", "z"), shortest_row, house, 0, 3)

    def test_the_least_row_may_lead_through_a_later_hall(self):
        house = House(4, ((0, 1, "c"), (0, 2, "a"), (1, 3, "a"), (2, 3, "b")))
        self.check_same(walk(house, 0, shortest_row(house, 0, 3)), (0, 2, 3))

    def test_all_rows(self):
        for house in [*small_houses(), four(), *random_houses(24)]:
            for start, goal in itertools.product(range(house.halls), repeat=2):
                if distance(house, start, goal) <= 5:
                    self.check_same(shortest_row(house, start, goal), shortest_rows(house, start, goal)[0])

    def test_no_push_stays(self):
        for house in random_houses(60):
            for start, goal in itertools.product(range(house.halls), repeat=2):
                halls = walk(house, start, shortest_row(house, start, goal))
                self.assertEqual(len(halls), len(set(halls)))
                self.assertEqual(halls[-1], goal)


class ShortestCount(Case):
    def test_example(self):
        self.check_returns(2, shortest_count, square(), 1, 2)

    def test_ordinary_halls(self):
        self.check_returns(1, shortest_count, square(), 0, 1)
        self.check_returns(1, shortest_count, path(), 0, 2)
        self.check_returns(1, shortest_count, line(64), 63, 0)
        self.check_returns(math.factorial(6), shortest_count, cube(6), 0, 63)
        self.check_returns(math.factorial(3), shortest_count, cube(6), 0, 0b101010)

    def test_the_same_hall(self):
        for house in (House(1), path(), square(), sixteen(), line(64)):
            for hall in range(house.halls):
                self.check_returns(1, shortest_count, house, hall, hall)

    def test_parallel_doors(self):
        self.check_returns(16, shortest_count, sixteen(), 0, 1)
        self.check_returns(16, shortest_count, sixteen(), 1, 0)
        doors = [(hall, hall + 1, colour) for hall in range(63) for colour in (SIXTEEN[:8], SIXTEEN[8:])[hall % 2]]
        self.check_returns(8 ** 63, shortest_count, House(64, tuple(doors)), 0, 63)

    def test_all_rows(self):
        for house in [*small_houses(), four(), *random_houses(24)]:
            for start, goal in itertools.product(range(house.halls), repeat=2):
                if distance(house, start, goal) <= 5:
                    self.check_same(shortest_count(house, start, goal), len(shortest_rows(house, start, goal)))


class Spheres(Case):
    def test_example(self):
        self.check_returns((1, 2, 1), spheres, square(), 0)

    def test_ordinary_halls(self):
        self.check_returns((1,), spheres, House(1), 0)
        self.check_returns((1, 1), spheres, sixteen(), 1)
        self.check_returns((1, 1, 1), spheres, path(), 0)
        self.check_returns((1, 2), spheres, path(), 1)
        self.check_returns((1, 3), spheres, four(), 2)
        self.check_returns((1,) * 64, spheres, line(64), 63)
        self.check_returns((1, 2) + (2,) * 30 + (1,), spheres, line(64), 31)
        self.check_returns((1, 6, 15, 20, 15, 6, 1), spheres, cube(6), 37)

    def test_they_count_the_distances(self):
        for house in random_houses(60):
            far = table(house)
            for start in range(house.halls):
                row = [far[start, goal] for goal in range(house.halls)]
                self.check_same(spheres(house, start), tuple(row.count(many) for many in range(max(row) + 1)))

    def test_wrong_houses_and_halls(self):
        self.check_wrong_houses(spheres, 0)
        for house in (House(1), path(), line(64)):
            self.check_wrong_halls(spheres, house)

    def test_order_of_errors(self):
        self.check_order(
            spheres, (path(), None, InvalidHouse, "house", None), (0, False, InvalidHall, "hall", False))


class WrongArguments(Case):
    def test_wrong_houses(self):
        for call in THREE:
            self.check_wrong_houses(call, 0, 0)

    def test_wrong_halls(self):
        for call in THREE:
            for house in (House(1), path(), line(64)):
                self.check_wrong_halls(call, house, 0)
                self.check_wrong_halls(call, house, 0, at=2)
                self.check_raises(InvalidHall, "hall", -1, call, house, -1, -2)

    def test_order_of_errors(self):
        for call in THREE:
            self.check_order(
                call, (path(), (), InvalidHouse, "house", ()), (1, True, InvalidHall, "hall", True),
                (2, 3, InvalidHall, "hall", 3))
