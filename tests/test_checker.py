"""Points 71 and 72, and what point 3 says of the checker."""

import ast
import itertools
import pathlib
import random

from doorlots import checker
from doorlots.alike import alike_map, difference
from doorlots.checker import holds
from doorlots.distances import distance, shortest_row
from doorlots.errors import InvalidDoors, InvalidGrouping, InvalidHalls, NotASplit, Unreachable
from doorlots.houses import House, is_colour
from doorlots.linking import corner_link, stretch_link
from doorlots.lots import are_bound, lots
from doorlots.splits import addresses, part
from doorlots.walks import effect
from tests.helper import (
    NOT_COLOURS, NOT_INTEGERS, PATH_DOORS, SIXTEEN, SQUARE_DOORS, Case, Odd, all_houses, cube, edge, four, groupings,
    kinds, led, line, path, pushed, random_crosses, random_house, random_houses, sixteen, square,
)

WORDS = ("split", "free", "bound", "finest", "alike", "unlike", "distance", "repeat")
SQUARE = (4, SQUARE_DOORS)
PATH = (3, PATH_DOORS)
FOUR = (4, four().doors)
APART = (("a",), ("b",))
TABLE = ((0, 0), (1, 0), (0, 1), (1, 1))
STRETCH = ("stretch", (0, 1, "a"), (0, 2, "b"))
# For each word a claim and a certificate.
SHOWN = (
    (("split", *SQUARE, APART), TABLE),
    (("free", *SQUARE, "b", "a"), (APART, TABLE)),
    (("bound", *PATH, "b", "a"), (("corner", "b", "a", 0),)),
    (("bound", *FOUR, "a", "b"), (STRETCH,)),
    (("finest", *PATH, (("a", "b"),)), (((0,), (1,), (2,)), (("corner", "a", "b", 1),))),
    (("alike", *PATH, 3, ((0, 1, "b"), (1, 2, "a")), 2), (2, 1, 0)),
    (("unlike", *PATH, 2, ((0, 1, "a"),)), (("a", "b", "a"), ("a", "b", "a"))),
    (("distance", *PATH, 2, 0, 2), (("b", "a"), (2, 1, 0))),
    (("repeat", *PATH, 0, ("a", "b"), 4, 2), (0, 2, 1)),
)


def whole(value):
    return type(value) is int


def same(value, expected):
    return kinds(value) == kinds(expected) and value == expected


def house_of(halls, doors):
    try:
        return House(halls, doors)
    except (InvalidHalls, InvalidDoors, Unreachable):
        return None


def is_row(value):
    return type(value) is tuple and len(value) <= 400 and all(is_colour(colour) for colour in value)


def is_hall(house, value):
    return whole(value) and value in range(house.halls)


def is_table(house, grouping, table):
    try:
        return same(table, addresses(house, grouping))
    except (InvalidGrouping, NotASplit):
        return False


def has_corner(house, one, other, hall):
    """By the words of point 10."""
    for first, second in ((one, other), (other, one)):
        goal = pushed(house, hall, first)
        if goal != hall:
            at = [pushed(house, place, second) != place for place in (hall, goal)]
            if at[0] != at[1] or all(at) and led(house, hall, (first, second)) != led(house, hall, (second, first)):
                return True
    return False


def joined(house, link):
    """The two colours that a link joins, or None if it is not a link."""
    if type(link) is not tuple or not link or type(link[0]) is not str:
        return None
    if link[0] == "corner" and len(link) == 4:
        one, other, hall = link[1:]
        known = all(is_colour(colour) and colour in house.colours() for colour in (one, other))
        if known and one != other and is_hall(house, hall) and has_corner(house, one, other, hall):
            return one, other
    if link[0] == "stretch" and len(link) == 3:
        doors = [[door for door in house.doors if same(value, door)] for value in link[1:]]
        if all(doors) and doors[0][0][2] != doors[1][0][2]:
            (p, q, one), (r, s, other) = doors[0][0], doors[1][0]
            if distance(house, p, r) + distance(house, q, s) != distance(house, p, s) + distance(house, q, r):
                return one, other
    return None


def shows_bound(house, one, other, links):
    if not all(is_colour(colour) and colour in house.colours() for colour in (one, other)) or one == other:
        return False
    if type(links) is not tuple or not links:
        return False
    pairs = [joined(house, link) for link in links]
    if None in pairs or pairs[0][0] != one or pairs[-1][1] != other:
        return False
    return all(before[1] == after[0] for before, after in zip(pairs, pairs[1:]))


def shows_finest(house, grouping, certificate):
    if type(certificate) is not tuple or len(certificate) != 2 or not is_table(house, grouping, certificate[0]):
        return False
    if type(certificate[1]) is not tuple:
        return False
    pairs = [joined(house, link) for link in certificate[1]]
    if None in pairs or not all(any(set(pair) <= set(lot) for lot in grouping) for pair in pairs):
        return False
    group = {colour: {colour} for colour in house.colours()}
    for one, other in pairs:
        together = group[one] | group[other]
        for colour in together:
            group[colour] = together
    return all(group[colour] == set(lot) for lot in grouping for colour in lot)


def shows_distance(house, start, goal, many, certificate):
    if not is_hall(house, start) or not is_hall(house, goal) or not whole(many):
        return False
    if type(certificate) is not tuple or len(certificate) != 2:
        return False
    row, heights = certificate
    if not is_row(row) or len(row) != many or led(house, start, row) != goal:
        return False
    if type(heights) is not tuple or len(heights) != house.halls or not all(whole(height) for height in heights):
        return False
    return heights[start] == 0 and heights[goal] == many and all(
        abs(heights[low] - heights[high]) <= 1 for low, high, colour in house.doors)


def shows_repeat(house, start, row, times, goal, halls):
    if not is_hall(house, start) or not is_row(row) or not whole(times) or not 0 <= times <= 10 ** 30:
        return False
    if not is_hall(house, goal) or type(halls) is not tuple or not halls:
        return False
    if not all(is_hall(house, hall) for hall in halls) or len(set(halls)) != len(halls) or halls[0] != start:
        return False
    goals = [led(house, hall, row) for hall in halls]
    return goals == [*halls[1:], start] and halls[times % len(halls)] == goal


def shown(claim, certificate):
    """What the checker must say, by the words of point 72 and with the other parts of the program."""
    if type(claim) is not tuple or not claim or type(claim[0]) is not str or claim[0] not in WORDS:
        return False
    sizes = dict(zip(WORDS, (4, 5, 5, 4, 6, 5, 6, 7)))
    if len(claim) != sizes[claim[0]]:
        return False
    house = house_of(*claim[1:3])
    if house is None:
        return False
    word, rest = claim[0], claim[3:]
    if word == "split":
        return is_table(house, rest[0], certificate)
    if word == "free":
        if type(certificate) is not tuple or len(certificate) != 2 or not is_table(house, *certificate):
            return False
        known = all(is_colour(colour) and colour in house.colours() for colour in rest)
        return known and not any(rest[0] in lot and rest[1] in lot for lot in certificate[0])
    if word == "bound":
        return shows_bound(house, *rest, certificate)
    if word == "finest":
        return shows_finest(house, *rest, certificate)
    if word == "distance":
        return shows_distance(house, *rest, certificate)
    if word == "repeat":
        return shows_repeat(house, *rest, certificate)
    other = house_of(*rest[:2])
    if other is None:
        return False
    if word == "alike":
        return is_hall(other, rest[2]) and same(certificate, alike_map(house, other, other_start=rest[2])) \
            and certificate is not None
    if type(certificate) is not tuple or len(certificate) != other.halls or not all(map(is_row, certificate)):
        return False
    return all((led(house, 0, row) == 0) != (led(other, hall, row) == hall) for hall, row in enumerate(certificate))


def variants(value):
    """Values that are nearly this one."""
    yield None
    yield [value]
    yield (value,)
    if whole(value):
        yield from (value - 1, value + 1, -value, value == 1, value != 1, str(value), 10 ** 30, 10 ** 39)
    elif isinstance(value, str):
        yield from ("a", "b", "c", "zz", "A", "", value + "a", value.upper(), True, 0, *WORDS, "corner", "stretch")
    elif isinstance(value, tuple):
        yield list(value)
        yield value + (None,)
        yield value + value[-1:]
        yield value + value
        yield value[::-1]
        yield ()
        for at, item in enumerate(value):
            yield value[:at] + value[at + 1:]
            yield value[:at] + (item,) + value[at:]
            yield value[:at] + value[at + 1:at + 2] + (item,) + value[at + 2:]
            for other in variants(item):
                yield value[:at] + (other,) + value[at + 1:]


def link_of(house, one, other):
    hall = corner_link(house, one, other)
    return ("corner", one, other, hall) if hall is not None else ("stretch", *stretch_link(house, one, other))


def some_shown(house):
    """Claims about a house with certificates that show them."""
    plan = (house.halls, house.doors)
    split = lots(house)
    table = addresses(house, split)
    yield ("split", *plan, split), table
    pairs = list(itertools.combinations(house.colours(), 2))
    linked = [pair for pair in pairs if corner_link(house, *pair) is not None or stretch_link(house, *pair) is not None]
    yield ("finest", *plan, split), (table, tuple(link_of(house, *pair) for pair in linked))
    for one, other in pairs[:3]:
        if not are_bound(house, one, other):
            yield ("free", *plan, other, one), (split, table)
    for one, other in linked[:3]:
        back = (link_of(house, one, other), link_of(house, other, one), link_of(house, one, other))
        yield ("bound", *plan, one, other), back
    last = house.halls - 1
    yield ("alike", *plan, *plan, 0), tuple(range(house.halls))
    turned = house.renumbered(tuple(range(last, -1, -1)))
    yield ("alike", *plan, turned.halls, turned.doors, last), tuple(range(last, -1, -1))
    if house.colours():
        yield ("unlike", *plan, 1, ()), (difference(house, House(1)),)
    heights = tuple(distance(house, last, hall) for hall in range(house.halls))
    yield ("distance", *plan, last, 0, heights[0]), (shortest_row(house, last, 0), heights)
    row = house.colours() + house.colours()[:1]
    goals = effect(house, row)
    halls = [last]
    while goals[halls[-1]] != last:
        halls.append(goals[halls[-1]])
    yield ("repeat", *plan, last, row, 10 ** 30, halls[10 ** 30 % len(halls)]), tuple(halls)


class Examples(Case):
    def test_examples(self):
        claim = ("split", *SQUARE, APART)
        self.check_returns(True, holds, claim, TABLE)
        self.check_returns(False, holds, claim, ((0, 0), (0, 1), (1, 0), (1, 1)))
        self.check_returns(False, holds, claim, None)
        claim = ("bound", *PATH, "b", "a")
        self.check_returns(True, holds, claim, (("corner", "b", "a", 0),))
        self.check_returns(False, holds, claim, (("corner", "a", "b", 0),))
        self.check_returns(False, holds, claim, ())

    def test_each_word(self):
        self.assertEqual({claim[0] for claim, certificate in SHOWN}, set(WORDS))
        for claim, certificate in SHOWN:
            self.check_returns(True, holds, claim, certificate)
            self.assertTrue(shown(claim, certificate))

    def test_an_element_more_and_less(self):
        for claim, certificate in SHOWN:
            for wrong in (claim[:-1], (*claim, None), (*claim, claim[-1]), claim[:1], list(claim)):
                self.check_returns(False, holds, wrong, certificate)
            for wrong in (certificate[:-1], (*certificate, None), list(certificate)):
                self.check_returns(False, holds, claim, wrong)

    def test_certificates_of_other_claims(self):
        for (claim, mine), (other, certificate) in itertools.product(SHOWN, repeat=2):
            self.check_same(holds(claim, certificate), shown(claim, certificate))

    def test_words(self):
        claim, certificate = SHOWN[0]
        for word in ("Split", "splits", "", " split", "addresses", None, 0, b"split", ("split",), ["split"], Odd()):
            self.check_returns(False, holds, (word, *claim[1:]), certificate)


class Houses(Case):
    def test_wrong_halls_and_doors(self):
        """Each claim needs the halls and doors of a house."""
        for claim, certificate in SHOWN:
            for halls in (0, 1, 65, 5, -1, *NOT_INTEGERS):
                self.check_returns(False, holds, (claim[0], halls, *claim[2:]), certificate)
            doors = claim[2]
            (low, high, colour), rest = doors[0], doors[1:]
            for wrong in (list(doors), None, (), doors[::-1], doors[1:], (*doors, doors[-1]), (list(doors[0]), *rest),
                          ((high, low, colour), *rest), ((True, high, colour), *rest), ((low, True, colour), *rest),
                          ((False, high, colour), *rest), ((low, high, "A"), *rest), ((low, high), *rest),
                          ((low, high, colour, colour), *rest), ((low, 64, colour), *rest), (Odd(), *rest),
                          ((low, high, Odd()), *rest), ((Odd(), high, colour), *rest)):
                self.check_returns(False, holds, (claim[0], claim[1], wrong, *claim[3:]), certificate)

    def test_second_houses(self):
        for claim, certificate in SHOWN:
            if claim[0] in ("alike", "unlike"):
                for halls in (0, 65, *NOT_INTEGERS):
                    self.check_returns(False, holds, (*claim[:3], halls, *claim[4:]), certificate)
                for doors in (None, (), list(claim[4]), claim[4] * 2, ((False, 1, "a"),), Odd()):
                    self.check_returns(False, holds, (*claim[:4], doors, *claim[5:]), certificate)

    def test_a_hall_with_two_doors_of_a_colour(self):
        doors = ((0, 1, "a"), (1, 2, "a"))
        self.check_returns(False, holds, ("distance", 3, doors, 0, 0, 0), ((), (0, 0, 0)))

    def test_a_hall_that_cannot_be_reached(self):
        self.check_returns(False, holds, ("distance", 3, ((0, 1, "a"),), 0, 0, 0), ((), (0, 0, 0)))
        self.check_returns(True, holds, ("distance", 2, ((0, 1, "a"),), 0, 0, 0), ((), (0, 0)))

    def test_sixty_four_halls_and_sixteen_colours(self):
        heights = tuple(range(64))
        row = ("a", "b") * 31 + ("a",)
        self.check_returns(True, holds, ("distance", 64, line(64).doors, 0, 63, 63), (row, heights))
        doors = line(64).doors + ((63, 64, "b"),)
        self.check_returns(False, holds, ("distance", 65, doors, 0, 0, 0), ((), tuple(range(65))))
        claim = ("repeat", 2, sixteen().doors, 0, ("p",), 7, 1)
        self.check_returns(True, holds, claim, (0, 1))
        doors = sixteen().doors + ((0, 1, "q"),)
        self.check_returns(False, holds, ("repeat", 2, doors, 0, ("p",), 7, 1), (0, 1))

    def test_a_house_of_one_hall(self):
        self.check_returns(True, holds, ("split", 1, (), ()), ((),))
        self.check_returns(False, holds, ("split", 1, (), ()), ())
        self.check_returns(False, holds, ("split", 1, (), ((),)), ((0,),))
        self.check_returns(True, holds, ("finest", 1, (), ()), (((),), ()))
        self.check_returns(True, holds, ("alike", 1, (), 1, (), 0), (0,))
        self.check_returns(False, holds, ("unlike", 1, (), 1, ()), ((),))
        self.check_returns(True, holds, ("distance", 1, (), 0, 0, 0), ((), (0,)))
        self.check_returns(True, holds, ("repeat", 1, (), 0, (), 0, 0), (0,))
        self.check_returns(False, holds, ("bound", 1, (), "a", "b"), ())
        self.check_returns(False, holds, ("free", 1, (), "a", "b"), ((), ((),)))


class Splits(Case):
    def test_every_grouping(self):
        """The claim is accepted with the table of a split, and never with one of another grouping."""
        for house in [square(), path(), four(), cube(3), *random_crosses(6), *random_houses(12)]:
            if len(house.colours()) > 4:
                continue
            every = list(groupings(house.colours()))
            for grouping in every:
                claim = ("split", house.halls, house.doors, grouping)
                try:
                    table = addresses(house, grouping)
                except NotASplit:
                    for other in (addresses(house, lots(house)), tuple((hall,) for hall in range(house.halls)),
                                  ((0,) * len(grouping),) * house.halls):
                        self.check_same(holds(claim, other), False)
                else:
                    self.check_same(holds(claim, table), True)
                    self.check_same(holds(claim, table[1:] + table[:1]), len(table) == 1)

    def test_tables_of_groupings_that_are_no_splits(self):
        """All tables for lines and rings of a few halls: none shows what is not true."""
        apart = (("a",), ("b",))
        for house in all_houses(4, "ab"):
            if house.colours() == ("a", "b"):
                claim = ("split", 4, house.doors, apart)
                places = itertools.product(range(2), repeat=2)
                tables = list(itertools.permutations(places)) + [TABLE[:1] * 4]
                found = [table for table in tables if holds(claim, table)]
                self.assertEqual(found, [addresses(house, apart)] if lots(house) == apart else [])

    def test_wrong_groupings(self):
        for grouping in (("a", "b"), (("b",), ("a",)), (("a",),), (("a",), ("b",), ("c",)), (("a",), ("a",), ("b",)),
                         (("a", "b"), ("b",)), [("a",), ("b",)], (["a"], ["b"]), (("a",), ("b",), ()), ((), ("a",), ("b",)),
                         None, 0, Odd(), (("a",), (Odd(),)), (("a",), Odd()), (("a",), ("B",))):
            self.check_returns(False, holds, ("split", *SQUARE, grouping), TABLE)
            self.check_returns(False, holds, ("finest", *SQUARE, grouping), (TABLE, ()))
            self.check_returns(False, holds, ("free", *SQUARE, "a", "b"), (grouping, TABLE))
        whole_house = ((0,), (1,), (2,), (3,))
        self.check_returns(True, holds, ("split", *SQUARE, (("a", "b"),)), whole_house)
        self.check_returns(False, holds, ("split", *SQUARE, (("b", "a"),)), whole_house)

    def test_the_order_of_the_lots(self):
        """The table that the grouping would have if its lots could stand in this order."""
        turned = tuple(address[::-1] for address in TABLE)
        self.check_returns(False, holds, ("split", *SQUARE, APART[::-1]), turned)
        self.check_returns(False, holds, ("finest", *SQUARE, APART[::-1]), (turned, ()))
        self.check_returns(False, holds, ("free", *SQUARE, "a", "b"), (APART[::-1], turned))

    def test_as_many_addresses_as_the_parts_have(self):
        """Also where the house has more or fewer halls."""
        larger = smaller = 0
        for house in [path(), four(), line(5), *all_houses(4, "ab"), *random_houses(20)]:
            for grouping in groupings(house.colours()):
                halls = [range(part(house, lot)[0].halls) for lot in grouping]
                places = tuple(itertools.product(*halls))
                claim = ("split", house.halls, house.doors, grouping)
                self.check_same(holds(claim, places), shown(claim, places))
                larger += len(places) > house.halls
                smaller += len(places) < house.halls
        self.assertGreater(larger, 5)
        self.assertGreater(smaller, 5)

    def test_wrong_tables(self):
        claim = ("split", *SQUARE, APART)
        for table in (((0, 0), (True, 0), (0, 1), (1, 1)), ((False, 0), *TABLE[1:]), ([0, 0], *TABLE[1:]), list(TABLE),
                      TABLE[:3], (*TABLE, (1, 1)), TABLE[:3] + TABLE[:1], ((0, 0, 0), *TABLE[1:]), ((0,), *TABLE[1:]),
                      ((0, 0), (2, 0), (0, 1), (2, 1)), ((1, 1), (0, 1), (1, 0), (0, 0)), None, Odd(), (Odd(), *TABLE[1:]),
                      ((0, Odd()), *TABLE[1:]), ((0, 0), (1, 0), (0, -1), (1, 1))):
            self.check_returns(False, holds, claim, table)
            self.check_returns(False, holds, ("free", *SQUARE, "a", "b"), (APART, table))
            self.check_returns(False, holds, ("finest", *SQUARE, APART), (table, ()))


class Pairs(Case):
    def test_free(self):
        for one, other in (("a", "b"), ("b", "a")):
            self.check_returns(True, holds, ("free", *SQUARE, one, other), (APART, TABLE))
        for one, other in (("a", "a"), ("a", "c"), ("c", "a"), ("c", "d"), *[("a", colour) for colour in NOT_COLOURS]):
            self.check_returns(False, holds, ("free", *SQUARE, one, other), (APART, TABLE))
            self.check_returns(False, holds, ("free", *SQUARE, other, one), (APART, TABLE))
        together = ((("a", "b"),), ((0,), (1,), (2,), (3,)))
        self.check_returns(False, holds, ("free", *SQUARE, "a", "b"), together)
        coarse = (("a",), ("b", "c"))
        table = addresses(cube(3), coarse)
        self.check_returns(True, holds, ("free", 8, cube(3).doors, "a", "c"), (coarse, table))
        self.check_returns(False, holds, ("free", 8, cube(3).doors, "b", "c"), (coarse, table))
        for wrong in (None, (), (APART,), (APART, TABLE, ()), [APART, TABLE], (TABLE, APART), TABLE, Odd()):
            self.check_returns(False, holds, ("free", *SQUARE, "a", "b"), wrong)

    def test_bound(self):
        line_doors = ((0, 1, "a"), (1, 2, "b"), (2, 3, "c"))
        ab, bc, cb, ba = [("corner", one, other, hall) for one, other, hall in
                          (("a", "b", 0), ("b", "c", 1), ("c", "b", 3), ("b", "a", 2))]
        claim = ("bound", 4, line_doors, "a", "c")
        for links in ((ab, bc), (ab, ba, ab, bc), (ab, bc, cb, bc)):
            self.check_returns(True, holds, claim, links)
        for links in ((), (ab,), (bc,), (bc, ab), (ab, cb), (ab, bc, cb), [ab, bc], (list(ab), bc), (ab, None), ab, None,
                      (ba, bc), (("corner", "a", "c", 0),), (ab, bc, Odd())):
            self.check_returns(False, holds, claim, links)

    def test_two_colours_that_are_the_same(self):
        links = (("corner", "a", "b", 1), ("corner", "b", "a", 1))
        self.check_returns(False, holds, ("bound", *PATH, "a", "a"), links)
        self.check_returns(False, holds, ("bound", *PATH, "a", "a"), (("corner", "a", "a", 1),))

    def test_corner_links(self):
        """Each hall, by the words of point 10."""
        for house in [path(), square(), four(), cube(3), *random_houses(30)]:
            for one, other in itertools.permutations(house.colours(), 2):
                for hall in range(-1, house.halls + 1):
                    claim = ("bound", house.halls, house.doors, one, other)
                    expected = 0 <= hall < house.halls and has_corner(house, one, other, hall)
                    self.check_same(holds(claim, (("corner", one, other, hall),)), expected)

    def test_stretch_links(self):
        for house in [path(), square(), four(), cube(3), line(5), *random_houses(24)]:
            for door, other_door in itertools.product(house.doors, repeat=2):
                claim = ("bound", house.halls, house.doors, door[2], other_door[2])
                links = (("stretch", door, other_door),)
                self.check_same(holds(claim, links), shown(claim, links))

    def test_wrong_links(self):
        claim = ("bound", *FOUR, "a", "b")
        door, other = STRETCH[1:]
        for link in (("stretch", other, door), ("stretch", door), ("stretch", door, other, 0), ["stretch", door, other],
                     ("corner", door, other), ("stretch", list(door), other), ("stretch", (False, 1, "a"), other),
                     ("stretch", (0, True, "a"), other), ("stretch", (1, 0, "a"), other), ("stretch", (0, 2, "a"), other),
                     ("stretch", door, (0, 1, "b")), ("stretch", door, door), ("stretch", None, other), ("stretch", Odd(), other),
                     ("stretch", door, Odd()), ("stretch", (0, 1, Odd()), other), ("corner", "a", "b", 0), (), None, Odd(),
                     (Odd(), door, other), ("stretch", (0, 1), other), ("Stretch", door, other), ("stretch", door, (0, 2, "b", 0))):
            self.check_returns(False, holds, claim, (link,))
        claim = ("bound", *PATH, "b", "a")
        for hall in (3, -1, *NOT_INTEGERS):
            self.check_returns(False, holds, claim, (("corner", "b", "a", hall),))
        for colour in ("c", *NOT_COLOURS):
            self.check_returns(False, holds, claim, (("corner", "b", colour, 0),))
            self.check_returns(False, holds, claim, (("corner", colour, "a", 0),))
        self.check_returns(False, holds, claim, (("corner", "b", "b", 0),))
        self.check_returns(False, holds, claim, (("corner", "a", "a", 0),))

    def test_two_doors_of_the_same_colour(self):
        door, other = STRETCH[1:]
        for same_colour in (("stretch", door, door), ("stretch", door, (2, 3, "a"))):
            self.check_returns(False, holds, ("bound", *FOUR, "a", "b"), (same_colour, STRETCH))
        self.check_returns(False, holds, ("bound", *FOUR, "a", "b"), (STRETCH, ("stretch", other, other)))
        links = (STRETCH, ("stretch", (0, 1, "a"), (0, 3, "c")))
        claim, table = ("finest", *FOUR, (("a", "b", "c"),)), ((0,), (1,), (2,), (3,))
        self.check_returns(True, holds, claim, (table, links))
        self.check_returns(False, holds, claim, (table, (*links, ("stretch", door, door))))

    def test_no_chain_of_links_leads_to_a_free_colour(self):
        for house in [square(), cube(3), *random_crosses(8)]:
            links = [("corner", one, other, hall) for one, other in itertools.permutations(house.colours(), 2)
                     for hall in range(house.halls)]
            links += [("stretch", *doors) for doors in itertools.product(house.doors[:12], repeat=2)]
            for one, other in itertools.permutations(house.colours(), 2):
                if not are_bound(house, one, other):
                    claim = ("bound", house.halls, house.doors, one, other)
                    self.assertFalse(any(holds(claim, (link,)) for link in links))


class Finest(Case):
    def test_links(self):
        doors = ((0, 1, "a"), (1, 2, "b"), (2, 3, "c"))
        table = ((0,), (1,), (2,), (3,))
        claim = ("finest", 4, doors, (("a", "b", "c"),))
        ab, cb = ("corner", "a", "b", 0), ("corner", "c", "b", 3)
        for links in ((ab, cb), (cb, ab), (ab, ab, cb), (cb, ("corner", "b", "a", 2))):
            self.check_returns(True, holds, claim, (table, links))
        for links in ((), (ab,), (cb, cb), [ab, cb], (ab, cb, None), (ab, list(cb)), None, (ab, ("corner", "a", "c", 0)),
                      (ab, ("corner", "c", "b", 0)), Odd(), (Odd(),)):
            self.check_returns(False, holds, claim, (table, links))

    def test_a_long_chain(self):
        house = House(17, tuple((hall, hall + 1, SIXTEEN[hall]) for hall in range(16)))
        links = [("corner", SIXTEEN[at + 1], SIXTEEN[at], at + 1) for at in range(15)]
        claim = ("finest", 17, house.doors, (SIXTEEN,))
        table = tuple((hall,) for hall in range(17))
        for order in (links, links[::-1], links[::2] + links[1::2], links * 3):
            self.check_returns(True, holds, claim, (table, tuple(order)))
        for at in range(15):
            self.check_returns(False, holds, claim, (table, tuple(links[:at] + links[at + 1:])))

    def test_a_split_that_is_not_the_finest(self):
        table = ((0,), (1,), (2,), (3,))
        self.check_returns(False, holds, ("finest", *SQUARE, (("a", "b"),)), (table, ()))
        self.check_returns(True, holds, ("finest", *SQUARE, APART), (TABLE, ()))
        for wrong in (None, (), (TABLE,), (TABLE, (), ()), [TABLE, ()], ((), TABLE), Odd()):
            self.check_returns(False, holds, ("finest", *SQUARE, APART), wrong)

    def test_several_lots(self):
        for house in random_crosses(10):
            pairs = list(itertools.combinations(house.colours(), 2))
            links = [link_of(house, *pair) for pair in pairs
                     if corner_link(house, *pair) is not None or stretch_link(house, *pair) is not None]
            for grouping in groupings(house.colours()):
                try:
                    table = addresses(house, grouping)
                except NotASplit:
                    continue
                claim = ("finest", house.halls, house.doors, grouping)
                self.check_same(holds(claim, (table, tuple(links))), grouping == lots(house))
                self.check_same(holds(claim, (table, ())), all(len(lot) == 1 for lot in grouping))


class AlikeAndUnlike(Case):
    def test_every_map(self):
        houses = [path(), line(3).recoloured("a", "c"), edge("a"), *all_houses(3, "ab")]
        for one, other in itertools.product(houses, repeat=2):
            for hall in range(-1, other.halls + 1):
                claim = ("alike", one.halls, one.doors, other.halls, other.doors, hall)
                for places in itertools.product(range(max(one.halls, other.halls)), repeat=one.halls):
                    self.check_same(holds(claim, places), shown(claim, places))

    def test_wrong_maps(self):
        claim = ("alike", *SQUARE, *SQUARE, 3)
        self.check_returns(True, holds, claim, (3, 2, 1, 0))
        for places in ((3, 2, True, False), (3, 2, True, 0), (3, 2, 1, False), [3, 2, 1, 0], (3, 2, 1), (3, 2, 1, 0, 0), None,
                       (3, 2, 1, 4), (3, 2, 1, -1), (0, 1, 2, 3), (3, 2, 1, Odd()), Odd(), (3, 2, 1, "0"), (3, 3, 3, 3)):
            self.check_returns(False, holds, claim, places)
        for hall in (-1, 4, 0, *NOT_INTEGERS):
            self.check_returns(False, holds, (*claim[:-1], hall), (3, 2, 1, 0))

    def test_unlike(self):
        claim = ("unlike", *PATH, *SQUARE)
        rows = tuple(difference(path(), square(), other_start=hall) for hall in range(4))
        self.check_returns(True, holds, claim, rows)
        for at in range(4):
            for row in ((), ("a", "a"), list(rows[at]), None, ("A",), (None,), Odd(), (Odd(),), "a", ("b",) * 402):
                self.check_returns(False, holds, claim, rows[:at] + (row,) + rows[at + 1:])
        for wrong in (rows[:3], (*rows, rows[0]), list(rows), None, (), Odd()):
            self.check_returns(False, holds, claim, wrong)

    def test_rows_of_400_and_401_colours(self):
        claim = ("unlike", *PATH, 1, ())
        self.check_returns(True, holds, claim, (("a",) * 399,))
        self.check_returns(True, holds, claim, (("a",) * 399 + ("z",),))
        self.check_returns(False, holds, claim, (("a",) * 401,))
        self.check_returns(False, holds, claim, (("a",) * 400,))

    def test_alike_houses_are_never_unlike(self):
        for house in (path(), square(), four()):
            rows = [row for many in range(4) for row in itertools.product(house.colours(), repeat=many)]
            claim = ("unlike", house.halls, house.doors, house.halls, house.doors)
            first = [row for row in rows if (led(house, 0, row) == 0) != (led(house, 1, row) == 1)]
            for row in rows:
                self.check_same(holds(claim, (row, *(first or [()]) * (house.halls - 1))[:house.halls]), False)


class Distances(Case):
    def test_every_distance(self):
        for house in (path(), square(), four(), line(5)):
            for start, goal in itertools.product(range(house.halls), repeat=2):
                heights = tuple(distance(house, start, hall) for hall in range(house.halls))
                row = shortest_row(house, start, goal)
                for many in range(-1, 6):
                    claim = ("distance", house.halls, house.doors, start, goal, many)
                    self.check_same(holds(claim, (row, heights)), many == heights[goal])
                    longer = row + ("zz",) * (many - len(row))
                    self.check_same(holds(claim, (longer, heights)), many == heights[goal])

    def test_heights(self):
        claim = ("distance", *PATH, 1, 2, 1)
        for heights in ((1, 0, 1), (-1, 0, 1), (0, 0, 1)):
            self.check_returns(True, holds, claim, (("b",), heights))
        for heights in ((2, 0, 1), (1, 0, 2), (1, 0, 0), (1, 1, 1), (0, 1, 2), (1, 0), (1, 0, 1, 2), [1, 0, 1], None,
                        (True, 0, 1), (1, False, 1), (1, 0, True), (1, 0, "1"), (1, 0, Odd()), Odd(), (10 ** 39, 0, 1)):
            self.check_returns(False, holds, claim, (("b",), heights))

    def test_wrong_rows(self):
        claim = ("distance", *PATH, 1, 2, 1)
        for row in ((), ("a",), ("b", "z"), ("B",), ["b"], "b", None, (None,), Odd(), (Odd(),)):
            self.check_returns(False, holds, claim, (row, (1, 0, 1)))
        for wrong in (None, (), (("b",),), (("b",), (1, 0, 1), ()), [("b",), (1, 0, 1)], ((1, 0, 1), ("b",)), Odd()):
            self.check_returns(False, holds, claim, wrong)

    def test_wrong_halls_and_distances(self):
        good = (("b",), (1, 0, 1))
        for hall in (0, 2, -1, 3, *NOT_INTEGERS):
            self.check_returns(False, holds, ("distance", *PATH, hall, 2, 1), good)
        for hall in (0, 1, -1, 3, *NOT_INTEGERS):
            self.check_returns(False, holds, ("distance", *PATH, 1, hall, 1), good)
        for many in (0, 2, -1, 10 ** 39, *NOT_INTEGERS):
            self.check_returns(False, holds, ("distance", *PATH, 1, 2, many), good)
        self.check_returns(True, holds, ("distance", *PATH, 1, 2, 1), good)

    def test_a_longer_way_is_no_distance(self):
        self.check_returns(False, holds, ("distance", *SQUARE, 0, 1, 3), (("b", "a", "b"), (0, 3, 1, 2)))
        rows = ("z",) * 400, ("z",) * 401
        for row in rows:
            self.check_returns(False, holds, ("distance", *PATH, 0, 0, len(row)), (row, (0, 1, 2)))


class Repeats(Case):
    def test_times(self):
        halls = (0, 2, 1)
        for times in (0, 1, 2, 3, 4, 10 ** 30 - 1, 10 ** 30):
            for goal in range(3):
                claim = ("repeat", *PATH, 0, ("a", "b"), times, goal)
                self.check_returns(halls[times % 3] == goal, holds, claim, halls)
        for times in (-1, -3, 10 ** 30 + 1, 10 ** 30 + 2, 10 ** 30 + 3, 10 ** 39, *NOT_INTEGERS):
            for goal in range(3):
                self.check_returns(False, holds, ("repeat", *PATH, 0, ("a", "b"), times, goal), halls)

    def test_wrong_cycles(self):
        claim = ("repeat", *PATH, 0, ("a", "b"), 0, 0)
        self.check_returns(True, holds, claim, (0, 2, 1))
        for halls in ((), (0,), (0, 2), (0, 1, 2), (2, 1, 0), (0, 2, 1, 0, 2, 1), (0, 2, 1, 0), [0, 2, 1], (False, 2, 1),
                      (0, 2, True), (0, 2, 3), (0, 2, -1), None, Odd(), (0, 2, Odd()), (Odd(),)):
            self.check_returns(False, holds, claim, halls)

    def test_wrong_halls_and_rows(self):
        for hall in (1, 2, 3, -1, *NOT_INTEGERS):
            self.check_returns(False, holds, ("repeat", *PATH, hall, ("a", "b"), 0, 0), (0, 2, 1))
            self.check_returns(False, holds, ("repeat", *PATH, 0, ("a", "b"), 0, hall), (0, 2, 1))
        for row in (("b", "a"), ["a", "b"], "ab", ("a", "B"), ("a", None), None, Odd(), ("a", Odd())):
            self.check_returns(False, holds, ("repeat", *PATH, 0, row, 0, 0), (0, 2, 1))

    def test_rows_of_400_and_401_colours(self):
        self.check_returns(True, holds, ("repeat", *PATH, 0, ("a",) * 400, 5, 0), (0,))
        self.check_returns(True, holds, ("repeat", *PATH, 0, (), 10 ** 30, 0), (0,))
        self.check_returns(False, holds, ("repeat", *PATH, 0, ("a",) * 401, 5, 1), (0, 1))
        self.check_returns(True, holds, ("repeat", *PATH, 0, ("a",) * 399 + ("z",), 5, 1), (0, 1))


class NearlyRight(Case):
    def test_all_variants(self):
        """Of what is nearly a claim or a certificate, the checker accepts exactly what the words say."""
        accepted = 0
        for claim, certificate in SHOWN:
            for other in variants(claim):
                result = holds(other, certificate)
                self.check_same(result, shown(other, certificate))
                accepted += result
            for other in variants(certificate):
                result = holds(claim, other)
                self.check_same(result, shown(claim, other))
                accepted += result
        self.assertGreater(accepted, 20)

    def test_more_houses(self):
        source = random.Random(5)
        for house in [House(1), edge("b"), square(), four(), cube(3), *random_houses(12), *random_crosses(2)]:
            for claim, certificate in some_shown(house):
                self.check_same(holds(claim, certificate), True)
                others = list(variants(certificate))
                for other in source.sample(others, min(40, len(others))):
                    self.check_same(holds(claim, other), shown(claim, other))
                others = list(variants(claim[3:]))
                for other in source.sample(others, min(40, len(others))):
                    if isinstance(other, tuple):
                        changed = (*claim[:3], *other)
                        self.check_same(holds(changed, certificate), shown(changed, certificate))


class AnyValues(Case):
    pool = (None, True, False, 0, 1, 2, -1, 64, 10 ** 30, "", "a", "b", "A", "split", "corner", "stretch", b"a", (), [], {},
            ((0, 1, "a"),), ("a",), (("a",),), (0, 1), PATH_DOORS, {"a": 1}, House(1), House, Odd(), iter(()), len)

    def value(self, source, depth):
        kind = source.randrange(4) if depth < 4 else 3
        if kind > 1:
            return source.choice(self.pool)
        items = [self.value(source, depth + 1) for at in range(source.randrange(5))]
        return tuple(items) if kind == 0 else items

    def test_no_error(self):
        source = random.Random(7)
        for step in range(3000):
            claim, certificate = self.value(source, 0), self.value(source, 0)
            self.check_same(holds(claim, certificate), False)

    def test_no_error_behind_each_word(self):
        source = random.Random(8)
        for claim, certificate in SHOWN:
            for step in range(300):
                rest = [item if source.random() < 0.7 else self.value(source, 1) for item in claim[1:]]
                result = holds((claim[0], *rest), self.value(source, 0))
                self.assertIs(type(result), bool)
            for step in range(300):
                given = list(certificate)
                given[source.randrange(len(given))] = self.value(source, 1)
                self.assertIs(type(holds(claim, tuple(given))), bool)

    def test_each_place_of_a_claim_and_a_certificate(self):
        for claim, certificate in SHOWN:
            for value in self.pool:
                for at in range(len(claim)):
                    self.assertIs(type(holds((*claim[:at], value, *claim[at + 1:]), certificate)), bool)
                for at in range(len(certificate)):
                    self.assertIs(type(holds(claim, (*certificate[:at], value, *certificate[at + 1:]))), bool)
                self.check_same(holds(value, certificate), False)
                self.assertIs(type(holds(claim, value)), bool)

    def test_nothing_changes(self):
        claim = ["split", 4, list(SQUARE_DOORS), [["a"], ["b"]]]
        certificate = [[0, 0], [1, 0], [0, 1], [1, 1]]
        self.check_returns(False, holds, claim, certificate)
        self.assertEqual(claim, ["split", 4, list(SQUARE_DOORS), [["a"], ["b"]]])
        self.assertEqual(certificate, [[0, 0], [1, 0], [0, 1], [1, 1]])


class OwnParts(Case):
    def test_imports(self):
        """The checker uses its own parts, errors.py and bounds.py alone."""
        package = pathlib.Path(checker.__file__).parent
        allowed = {"doorlots.errors", "doorlots.bounds"}
        tree = ast.parse((package / "checker.py").read_text("ascii"))
        found = {node.module for node in ast.walk(tree) if isinstance(node, ast.ImportFrom)}
        self.assertLessEqual(found, allowed)
        for name in ("errors", "bounds", "__init__"):
            tree = ast.parse((package / (name + ".py")).read_text("ascii"))
            self.assertEqual([node for node in ast.walk(tree) if isinstance(node, (ast.Import, ast.ImportFrom))], [])
