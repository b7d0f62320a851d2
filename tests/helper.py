"""What the tests share: a case that looks closely at errors and values, and some houses."""

import copy
import inspect
import itertools
import random
import unittest

from doorlots import errors
from doorlots.castles import Castle
from doorlots.houses import House
from doorlots.keep import Keep

SQUARE_DOORS = ((0, 1, "a"), (0, 2, "b"), (1, 3, "b"), (2, 3, "a"))
PATH_DOORS = ((0, 1, "a"), (1, 2, "b"))
SIXTEEN = tuple("abcdefghijklmnop")
BASES = {
    errors.InvalidInput: ValueError,
    errors.StateError: RuntimeError,
    errors.LimitExceeded: ArithmeticError,
}


class Odd:
    """A value of a kind that the program does not know."""

    def __eq__(self, other):
        raise AssertionError("compared")

    def __repr__(self):
        raise AssertionError("written out")


WRONG_HOUSES = (
    None, True, 0, 1, "", "house 1", (), (1, ()), (4, SQUARE_DOORS), [4, SQUARE_DOORS], {}, {"halls": 1, "doors": ()},
    House, Odd(),
)
NOT_INTEGERS = (None, True, False, "0", "a", "", b"0", (), (0,), [], [0], {}, Odd())
NOT_COLOURS = (
    None, True, False, 0, 7, -1, b"a", (), ("a",), [], ["a"], {}, {"a": 1}, Odd(),
    "", " ", "A", "Red", "reD", "a b", " a", "a ", "a\n", "\n", "a1", "1", "a-b", "a_b", "abcdefg", "z" * 4000,
)


def square():
    return House(4, SQUARE_DOORS)


def path():
    return House(3, PATH_DOORS)


def sixteen():
    """Two halls that are joined by a door of each of sixteen colours."""
    return House(2, tuple((0, 1, colour) for colour in SIXTEEN))


def edge(colour):
    return House(2, ((0, 1, colour),))


def edges(colours):
    return tuple(edge(colour) for colour in colours)


def letters(many):
    """So many colours of four letters."""
    return ["".join(word) for word in itertools.islice(itertools.product("abcdefghijklmnopqrstuvwxyz", repeat=4), many)]


def line(halls):
    """Halls in a row, joined by doors of the colours a and b in turn."""
    return House(halls, tuple((hall, hall + 1, "ab"[hall % 2]) for hall in range(halls - 1)))


def four():
    """Four halls of which every two are joined, with three colours."""
    return House(4, ((0, 1, "a"), (0, 2, "b"), (0, 3, "c"), (1, 2, "c"), (1, 3, "b"), (2, 3, "a")))


def cube(bits):
    """A hall for each number of so many bits; each bit has a colour that changes it, the highest one a."""
    doors = []
    for hall in range(1 << bits):
        for at, colour in enumerate(SIXTEEN[:bits]):
            other = hall ^ 1 << (bits - 1 - at)
            if hall < other:
                doors.append((hall, other, colour))
    return House(1 << bits, tuple(sorted(doors)))


def random_house(seed, halls, colours, many):
    """A house with a tree of doors and then more of them, at most so many, the same for the same arguments."""
    source = random.Random(seed)
    doors, ends = [], set()

    def put(low, high, colour):
        free = (low, colour) not in ends and (high, colour) not in ends
        if free:
            doors.append((low, high, colour))
            ends.update([(low, colour), (high, colour)])
        return free

    for high in range(1, halls):
        while not put(source.randrange(high), high, source.choice(colours)):
            pass
    for step in range(many):
        low, high = sorted(source.sample(range(halls), 2))
        put(low, high, source.choice(colours))
    house = House(halls, tuple(sorted(doors)))
    return house.renumbered(tuple(source.sample(range(halls), halls)))


def random_houses(many):
    """Houses of two to nine halls in up to five colours."""
    for seed in range(many):
        yield random_house(seed, 2 + seed % 8, SIXTEEN[:2 + seed // 8 % 4], seed % 11)


def doors_between(halls, colours):
    """All doors that there could be, in ascending order."""
    pairs = itertools.combinations(range(halls), 2)
    return sorted((low, high, colour) for low, high in pairs for colour in colours)


def door_choices(halls, colours):
    """All ascending tuples of such doors."""
    doors = doors_between(halls, colours)
    for many in range(len(doors) + 1):
        yield from itertools.combinations(doors, many)


def small_houses():
    """All houses of one and two halls, of four halls in the colours a and b, and of three halls in three colours."""
    for halls, colours in ((1, ""), (2, "ab"), (4, "ab"), (3, "abc")):
        for doors in door_choices(halls, colours):
            try:
                yield House(halls, doors)
            except (errors.InvalidDoors, errors.Unreachable):
                pass


def matchings(halls):
    """All tuples of pairs of these halls in which no hall is in two pairs."""
    if not halls:
        yield ()
        return
    first, *rest = halls
    yield from matchings(rest)
    for other in rest:
        for more in matchings([hall for hall in rest if hall != other]):
            yield ((first, other), *more)


def all_houses(halls, colours):
    """All houses of so many halls whose doors have some of these colours."""
    for choice in itertools.product(list(matchings(list(range(halls)))), repeat=len(colours)):
        doors = [(*pair, colour) for pairs, colour in zip(choice, colours) for pair in pairs]
        try:
            yield House(halls, tuple(sorted(doors)))
        except errors.Unreachable:
            pass


def crossed(houses):
    """The halls and doors of a cross, by the words of point 8."""
    halls = list(itertools.product(*[range(house.halls) for house in houses]))
    doors = []
    for (low, one), (high, other) in itertools.combinations(enumerate(halls), 2):
        places = [at for at in range(len(houses)) if one[at] != other[at]]
        if len(places) == 1:
            ends = sorted((one[places[0]], other[places[0]]))
            doors += [(low, high, door[2]) for door in houses[places[0]].doors if list(door[:2]) == ends]
    return len(halls), tuple(sorted(doors))


def shuffled(house, seed):
    return house.renumbered(tuple(random.Random(seed).sample(range(house.halls), house.halls)))


def random_crosses(many):
    """Houses of four to 48 halls that are crosses of two or three houses, with their halls in another order."""
    for seed in range(many):
        houses = [random_house(seed, 2 + seed % 3, "be", seed % 4), random_house(seed + 1, 2 + seed // 3 % 3, "ad", 1)]
        if seed % 2 == 0:
            houses.append(random_house(seed + 2, 2 + seed % 4 // 2, "cf", seed % 3))
        yield shuffled(House(*crossed(houses)), seed)


def groupings(colours):
    """All groupings of some colours."""
    if not colours:
        yield ()
        return
    first, *rest = sorted(colours)
    for smaller in groupings(rest):
        yield tuple(sorted([(first,), *smaller]))
        for lot in smaller:
            yield tuple(sorted([(first, *lot), *[other for other in smaller if other != lot]]))


def pushed(house, hall, colour):
    """Where a push leads, straight from the doors."""
    for low, high, other in house.doors:
        if other == colour and hall in (low, high):
            return low + high - hall
    return hall


def led(house, hall, row):
    """Where a row leads, straight from the doors."""
    for colour in row:
        hall = pushed(house, hall, colour)
    return hall


def kinds(value):
    """The kinds of a value and of all that it holds, so that True and 1 can be told apart."""
    if type(value) in (tuple, list):
        return (type(value), [kinds(item) for item in value])
    return type(value)


def state(house):
    return copy.deepcopy((house.halls, house.doors, vars(house)))


def told(value):
    """The value with houses, castles and keeps written out."""
    if isinstance(value, House):
        return state(value)
    if isinstance(value, (Castle, Keep)):
        return told(list(vars(value).items()))
    if isinstance(value, (tuple, list)):
        return type(value)(told(item) for item in value)
    return value


class Case(unittest.TestCase):
    def check_same(self, result, expected):
        self.assertEqual(result, expected)
        self.assertEqual(kinds(result), kinds(expected))

    def check_error(self, error, base, field, value):
        """The error has this base class and this one field, and the field has this value and no equal one."""
        self.assertEqual(type(error).__bases__, (base,))
        self.assertEqual(base.__bases__, (BASES[base],))
        self.assertEqual(list(vars(error)), [field])
        found = getattr(error, field)
        if found is not value:
            self.check_same(found, value)

    def check_raises(self, kind, field, value, call, *args, **named):
        """The call raises this very error, given its arguments by position and by name."""
        base = kind.__bases__[0]
        names = list(inspect.signature(call).parameters)
        for given, by_name in ((args, named), ((), dict(zip(names, args), **named))):
            with self.assertRaises(kind) as caught:
                call(*given, **by_name)
            self.assertIs(type(caught.exception), kind)
            self.check_error(caught.exception, base, field, value)

    def check_returns(self, expected, call, *args, **named):
        """The call returns this value, given its arguments by position and by name."""
        names = list(inspect.signature(call).parameters)
        self.check_same(call(*args, **named), expected)
        self.check_same(call(**dict(zip(names, args), **named)), expected)

    def check_wrong_houses(self, call, *rest):
        """The call raises InvalidHouse for what is not a House, whatever the arguments after it are."""
        for at, house in enumerate(WRONG_HOUSES):
            with self.subTest(at=at):
                self.check_raises(errors.InvalidHouse, "house", house, call, house, *rest)
                self.check_raises(errors.InvalidHouse, "house", house, call, house, *[Odd() for value in rest])

    def check_wrong_halls(self, call, house, *rest, at=1):
        """The call raises InvalidHall for what is not a hall of the house, in this place of its arguments."""
        for number, hall in enumerate((-1, house.halls, house.halls + 1, 10 ** 39, *NOT_INTEGERS)):
            with self.subTest(number=number):
                args = [house, *rest]
                args.insert(at, hall)
                self.check_raises(errors.InvalidHall, "hall", hall, call, *args)

    def check_order(self, call, *rows):
        """Of several wrong arguments the first one is reported.

        A row has a right argument, a wrong one, and the error, field and value for the wrong one.
        """
        for choice in itertools.product((0, 1), repeat=len(rows)):
            args = [row[wrong] for row, wrong in zip(rows, choice)]
            if 1 in choice:
                kind, field, value = rows[choice.index(1)][2:]
                self.check_raises(kind, field, value, call, *args)
            else:
                call(*args)

    def check_house(self, house, halls, doors):
        self.assertIs(type(house), House)
        self.check_same(house.halls, halls)
        self.check_same(house.doors, doors)

    def check_gives_house(self, halls, doors, call, *args):
        """The call returns this house, given its arguments by position and by name."""
        names = list(inspect.signature(call).parameters)
        self.check_house(call(*args), halls, doors)
        self.check_house(call(**dict(zip(names, args))), halls, doors)
