"""Points 73 to 78, and what point 3 says of certificates."""

import itertools

from doorlots.alike import alike_map
from doorlots.certificates import (
    certify_alike, certify_distance, certify_finest, certify_pair, certify_repeat, certify_split,
)
from doorlots.checker import holds
from doorlots.distances import distance
from doorlots.errors import (
    InvalidGrouping, InvalidHall, InvalidHouse, InvalidRow, InvalidTimes, NotASplit, UnknownColour,
)
from doorlots.houses import House
from doorlots.lots import are_bound, lots
from doorlots.splits import addresses, is_split
from doorlots.walks import repeated
from tests.helper import (
    NOT_COLOURS, NOT_INTEGERS, PATH_DOORS, SIXTEEN, SQUARE_DOORS, WRONG_HOUSES, Case, Odd, all_houses, cube, edge, four,
    groupings, kinds, line, path, random_crosses, random_house, random_houses, shuffled, sixteen, square,
)


def some_houses():
    return [House(1), edge("b"), path(), square(), four(), cube(4), *all_houses(3, "abc"), *list(all_houses(4, "ab"))[::3],
            *random_houses(20), *random_crosses(10)]


def large_houses():
    return [cube(6), line(64), sixteen(), random_house(1, 64, SIXTEEN, 250), random_house(2, 64, "abc", 10),
            random_house(3, 40, SIXTEEN, 0)]


class CertificateCase(Case):
    def check_shown(self, claim, call, *args):
        """The call gives this claim and a certificate that the checker accepts, by position and by name."""
        result = call(*args)
        self.assertIs(type(result), tuple)
        self.assertEqual(len(result), 2)
        self.check_same(result[0], claim)
        self.check_same(holds(*result), True)
        self.check_returns(result, call, *args)
        return result[1]


class Split(CertificateCase):
    def test_example(self):
        self.check_returns((("split", 2, ((0, 1, "a"),), (("a",),)), ((0,), (1,))), certify_split, edge("a"), (("a",),))

    def test_all_splits(self):
        for house in some_houses():
            for grouping in groupings(house.colours()):
                if is_split(house, grouping):
                    claim = ("split", house.halls, house.doors, grouping)
                    table = self.check_shown(claim, certify_split, house, grouping)
                    self.check_same(table, addresses(house, grouping))
                else:
                    self.check_raises(NotASplit, "grouping", grouping, certify_split, house, grouping)

    def test_large_houses(self):
        for house in large_houses():
            for grouping in {lots(house), (house.colours(),)}:
                self.check_shown(("split", house.halls, house.doors, grouping), certify_split, house, grouping)

    def test_a_house_of_one_hall(self):
        self.check_returns((("split", 1, (), ()), ((),)), certify_split, House(1), ())

    def test_wrong_arguments(self):
        self.check_wrong_houses(certify_split, ())
        for grouping in (None, [("a",), ("b",)], "ab", 0, True, (), (("a",),), Odd()):
            self.check_raises(InvalidGrouping, "position", None, certify_split, square(), grouping)
        self.check_raises(InvalidGrouping, "position", 1, certify_split, square(), (("b",), ("a",)))
        self.check_raises(InvalidGrouping, "position", 0, certify_split, square(), (["a"], ["b"]))
        self.check_order(
            certify_split, (square(), 4, InvalidHouse, "house", 4),
            ((("a",), ("b",)), [("a",), ("b",)], InvalidGrouping, "position", None))
        apart = (("a",), ("b",))
        self.check_raises(NotASplit, "grouping", apart, certify_split, path(), apart)


class Pair(CertificateCase):
    def test_example(self):
        claim = ("bound", 3, PATH_DOORS, "a", "b")
        self.check_shown(claim, certify_pair, path(), "a", "b")

    def test_all_pairs(self):
        for house in [*some_houses(), *large_houses()]:
            for one, other in list(itertools.permutations(house.colours(), 2))[:12]:
                word = "bound" if are_bound(house, one, other) else "free"
                claim = (word, house.halls, house.doors, one, other)
                certificate = self.check_shown(claim, certify_pair, house, one, other)
                if word == "free":
                    self.assertTrue(is_split(house, certificate[0]))

    def test_both_kinds_of_links(self):
        corner = certify_pair(path(), "b", "a")[1]
        stretch = certify_pair(four(), "b", "a")[1]
        self.assertEqual([link[0] for link in corner], ["corner"])
        self.assertEqual([link[0] for link in stretch], ["stretch"])

    def test_a_long_chain(self):
        house = House(17, tuple((hall, hall + 1, SIXTEEN[hall]) for hall in range(16)))
        for one, other in (("a", "p"), ("p", "a"), ("c", "m")):
            self.check_shown(("bound", 17, house.doors, one, other), certify_pair, house, one, other)

    def test_wrong_arguments(self):
        self.check_wrong_houses(certify_pair, "a", "b")
        for colour in ("c", "zz", *NOT_COLOURS):
            self.check_raises(UnknownColour, "colour", colour, certify_pair, square(), colour, "b")
            self.check_raises(UnknownColour, "colour", colour, certify_pair, square(), "a", colour)
        self.check_raises(UnknownColour, "colour", "a", certify_pair, square(), "a", "a")
        self.check_raises(UnknownColour, "colour", "a", certify_pair, House(1), "a", "b")
        self.check_order(
            certify_pair, (square(), 4, InvalidHouse, "house", 4), ("a", "c", UnknownColour, "colour", "c"),
            ("b", True, UnknownColour, "colour", True))


class Finest(CertificateCase):
    def test_example(self):
        self.check_returns((("finest", 1, (), ()), (((),), ())), certify_finest, House(1))

    def test_all_houses(self):
        for house in [*some_houses(), *large_houses()]:
            split = lots(house)
            certificate = self.check_shown(("finest", house.halls, house.doors, split), certify_finest, house)
            self.check_same(certificate[0], addresses(house, split))

    def test_wrong_houses(self):
        self.check_wrong_houses(certify_finest)


class Alike(CertificateCase):
    def test_example(self):
        turned = path().renumbered((2, 1, 0))
        claim = ("alike", 3, PATH_DOORS, 3, ((0, 1, "b"), (1, 2, "a")), 2)
        self.check_returns((claim, (2, 1, 0)), certify_alike, path(), turned)

    def test_all_pairs(self):
        houses = [House(1), edge("a"), edge("b"), path(), square(), four(), line(4), *list(all_houses(3, "ab")),
                  *[shuffled(house, 3) for house in (square(), line(4), cube(3))], cube(3)]
        for one, other in itertools.product(houses, repeat=2):
            both = (one.halls, one.doors, other.halls, other.doors)
            halls = [hall for hall in range(other.halls) if alike_map(one, other, other_start=hall) is not None]
            if halls:
                places = self.check_shown(("alike", *both, halls[0]), certify_alike, one, other)
                self.check_same(places, alike_map(one, other, other_start=halls[0]))
            else:
                rows = self.check_shown(("unlike", *both), certify_alike, one, other)
                self.assertEqual(len(rows), other.halls)

    def test_the_least_hall(self):
        self.check_same(certify_alike(square(), square())[0][-1], 0)
        self.check_same(certify_alike(line(5), line(5).renumbered((4, 3, 2, 1, 0)))[0][-1], 4)
        self.check_same(certify_alike(line(64), line(64).renumbered((5, *range(5), *range(6, 64))))[0][-1], 1)

    def test_large_houses(self):
        for at, house in enumerate(large_houses()):
            turned = shuffled(house, at)
            self.assertEqual(certify_alike(house, turned)[0][0], "alike")
            self.check_same(holds(*certify_alike(house, turned)), True)
        for one, other in ((line(64), line(63)), (cube(6), line(64)), (random_house(1, 64, "abc", 20), line(64))):
            claim, rows = certify_alike(one, other)
            self.assertEqual(claim[0], "unlike")
            self.assertTrue(all(len(row) <= 127 for row in rows))
            self.check_same(holds(claim, rows), True)

    def test_wrong_arguments(self):
        for wrong in WRONG_HOUSES:
            self.check_raises(InvalidHouse, "house", wrong, certify_alike, wrong, path())
            self.check_raises(InvalidHouse, "house", wrong, certify_alike, path(), wrong)
        self.check_order(certify_alike, (path(), 1, InvalidHouse, "house", 1), (path(), 2, InvalidHouse, "house", 2))


class Distance(CertificateCase):
    def test_example(self):
        claim = ("distance", 3, PATH_DOORS, 2, 0, 2)
        certificate = self.check_shown(claim, certify_distance, path(), 2, 0)
        self.check_same(certificate[0], ("b", "a"))

    def test_all_halls(self):
        for house in [*some_houses(), *large_houses()]:
            halls = range(house.halls) if house.halls < 10 else (0, 7, house.halls - 1)
            for start, goal in itertools.product(halls, repeat=2):
                claim = ("distance", house.halls, house.doors, start, goal, distance(house, start, goal))
                self.check_shown(claim, certify_distance, house, start, goal)

    def test_wrong_arguments(self):
        self.check_wrong_houses(certify_distance, 0, 0)
        self.check_wrong_halls(certify_distance, path(), 0)
        self.check_wrong_halls(certify_distance, path(), 0, at=2)
        self.check_order(
            certify_distance, (path(), 3, InvalidHouse, "house", 3), (0, True, InvalidHall, "hall", True),
            (2, 3, InvalidHall, "hall", 3))


class Repeat(CertificateCase):
    def test_example(self):
        claim = ("repeat", 3, PATH_DOORS, 0, ("a", "b"), 4, 2)
        self.check_returns((claim, (0, 2, 1)), certify_repeat, path(), 0, ("a", "b"), 4)

    def test_all_halls(self):
        for house in [*some_houses(), *large_houses()]:
            colours = house.colours() + ("zz",)
            for start in (0, house.halls - 1):
                for row in ((), colours, colours * 2 + colours[:1], ("zz",) * 400, (colours * 400)[:400]):
                    for times in (0, 1, 7, 10 ** 30):
                        goal = repeated(house, start, row, times)
                        claim = ("repeat", house.halls, house.doors, start, row, times, goal)
                        result = certify_repeat(house, start, row, times)
                        self.check_same(result[0], claim)
                        self.check_same(holds(*result), True)

    def test_by_name(self):
        claim = ("repeat", 4, SQUARE_DOORS, 3, ("b", "b", "a"), 10 ** 30, 3)
        self.check_shown(claim, certify_repeat, square(), 3, ("b", "b", "a"), 10 ** 30)

    def test_wrong_arguments(self):
        self.check_wrong_houses(certify_repeat, 0, (), 0)
        self.check_wrong_halls(certify_repeat, path(), (), 0)
        for row in (None, "ab", ["a"], 0, True, {}, Odd(), ("a",) * 401, (None,) * 401):
            self.check_raises(InvalidRow, "position", None, certify_repeat, path(), 0, row, 0)
        for colour in NOT_COLOURS:
            self.check_raises(InvalidRow, "position", 1, certify_repeat, path(), 0, ("z", colour, None), 0)
        for times in (-1, 10 ** 30 + 1, *NOT_INTEGERS):
            self.check_raises(InvalidTimes, "times", times, certify_repeat, path(), 0, (), times)
        self.check_order(
            certify_repeat, (path(), 3, InvalidHouse, "house", 3), (0, True, InvalidHall, "hall", True),
            (("a",), ["a"], InvalidRow, "position", None), (1, False, InvalidTimes, "times", False))


class TheSameAgain(CertificateCase):
    def test_equal_arguments(self):
        calls = [lambda: certify_pair(cube(4), "a", "d"), lambda: certify_pair(four(), "a", "c"),
                 lambda: certify_finest(random_house(4, 9, "abcd", 9)), lambda: certify_alike(path(), square()),
                 lambda: certify_distance(cube(4), 0, 15), lambda: certify_repeat(line(9), 2, ("a", "b"), 5)]
        first = [call() for call in calls]
        again = [call() for call in calls[::-1]][::-1]
        self.check_same(again, first)
        self.assertEqual(kinds(again), kinds(first))
