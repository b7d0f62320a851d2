"""Points 62 and 63, and what point 3 says of Castles that are alike."""

import itertools
import random

from doorlots.alike import alike_map
from doorlots.castles import Castle, are_alike, castle_difference
from doorlots.errors import InvalidCastle
from doorlots.houses import House, is_colour
from tests.helper import (
    SIXTEEN, WRONG_HOUSES, Case, cube, edge, edges, four, letters, line, path, random_house, shuffled, sixteen, square,
)

TWO = (are_alike, castle_difference)


def other_numbers(house, seed):
    """The house with its halls in another order, of which hall 0 stays the first."""
    rest = random.Random(seed).sample(range(1, house.halls), house.halls - 1)
    return house.renumbered((0, *rest))


def coloured(house, names):
    """The house with these new names of its colours."""
    doors = [(low, high, dict(zip(house.colours(), names))[colour]) for low, high, colour in house.doors]
    return House(house.halls, tuple(sorted(doors)))


def random_castle(seed):
    """A castle of at most 64 halls in some of the colours from a to e."""
    source = random.Random(seed)
    colours = source.sample("abcde", source.randint(1, 5))
    parts, most = [], 64
    while colours and most > 1:
        many = min(source.randint(1, 3), len(colours))
        chosen, colours = colours[:many], colours[many:]
        halls = source.randint(2, min(4, most)) if many > 1 else 2
        parts.append(random_house(source.random(), halls, chosen, source.randint(0, 4)))
        most //= halls
    return Castle(tuple(parts))


def is_home(castle, row):
    return castle.moved(castle.origin(), row) == castle.origin()


def some_castles():
    ends = [Castle(()), Castle(edges("ab")), Castle(edges("ba")), Castle((square(),)), Castle((path(),)),
            Castle((path().renumbered((1, 0, 2)),)), Castle((four(),)), Castle(edges("abc")), Castle((cube(3),)),
            Castle((square(), edge("c"))), Castle((House(2, ((0, 1, "a"), (0, 1, "b"))),)),
            Castle((House(2, ((0, 1, "a"), (0, 1, "b"))), edge("c"))), Castle((path(), edge("c")))]
    return [*ends, *map(random_castle, range(40))]


class CastleCase(Case):
    def check_pair(self, one, other, alike):
        """Both functions give the answer, and the row leads home in exactly one castle."""
        self.check_returns(alike, are_alike, one, other)
        row = castle_difference(one, other)
        self.assertEqual(castle_difference(one=one, other=other), row)
        if alike:
            self.assertIsNone(row)
        else:
            self.assertIs(type(row), tuple)
            self.assertLessEqual(len(row), 400)
            self.assertTrue(all(is_colour(colour) for colour in row))
            self.assertEqual(sorted([is_home(one, row), is_home(other, row)]), [False, True])

    def check_both_ways(self, one, other, alike):
        self.check_pair(one, other, alike)
        self.check_pair(other, one, alike)


class Alike(CastleCase):
    def test_examples(self):
        ends = Castle(edges("ba"))
        self.check_returns(True, are_alike, Castle((square(),)), ends)
        self.check_returns(False, are_alike, ends, Castle(()))
        row = castle_difference(ends, Castle(edges("b")))
        self.assertNotEqual(ends.moved((0, 0), row), (0, 0))

    def test_ordinary_castles(self):
        self.check_both_ways(Castle(()), Castle(()), True)
        self.check_both_ways(Castle(()), Castle(edges("a")), False)
        self.check_both_ways(Castle(edges("a")), Castle(edges("b")), False)
        self.check_both_ways(Castle((cube(6),)), Castle(edges("fbdaec")), True)
        self.check_both_ways(Castle((square(), edge("c"))), Castle((edge("c"), *edges("ab"))), True)
        self.check_both_ways(Castle((path(), edge("c"))), Castle((edge("c"), path())), True)
        self.check_both_ways(Castle((path(), edge("c"))), Castle((path().renumbered((2, 1, 0)), edge("c"))), False)
        self.check_both_ways(Castle((sixteen(),)), Castle(edges(SIXTEEN)), False)

    def test_lots_that_are_not_the_same(self):
        """In a square the two colours are free, on a line of three halls they are bound by a corner link."""
        self.check_both_ways(Castle((square(),)), Castle((path(),)), False)
        self.check_both_ways(Castle((path(), edge("c"))), Castle((coloured(path(), "ac"), edge("b"))), False)
        self.check_both_ways(Castle((path(), edge("c"))), Castle(edges("abc")), False)

    def test_colours_that_are_bound_by_stretch_links_only(self):
        self.check_both_ways(Castle((four(),)), Castle(edges("abc")), False)
        self.check_both_ways(Castle((four(),)), Castle((House(2, ((0, 1, "a"), (0, 1, "b"))), edge("c"))), False)
        others = (coloured(line(64), "ax"), coloured(line(63), "by"), coloured(line(62), "cz"))
        self.check_both_ways(Castle((four(),)), Castle(others), False)
        more = tuple(edge(colour) for colour in "xyz")
        self.check_both_ways(Castle((four(), *more)), Castle(others), False)

    def test_a_part_of_the_colours_does_the_same(self):
        """The colours of the shorter line do the same in both castles at first, and are not seen at the far end."""
        long, longer = coloured(line(63), "ab"), coloured(line(64), "ab")
        self.check_both_ways(Castle((long, edge("c"))), Castle((edge("c"), longer)), False)
        lamp = longer.opened((61, 62, "d"))
        self.check_both_ways(Castle((longer, edge("d"))), Castle((lamp,)), False)
        self.check_both_ways(Castle((longer, edge("c"))), Castle((longer.opened((61, 62, "c")),)), False)
        hidden = House(3, ((0, 1, "a"), (1, 2, "b")))
        self.check_both_ways(Castle((hidden, edge("c"))), Castle((House(3, ((0, 1, "a"), (1, 2, "c"))), edge("b"))), False)

    def test_all_pairs_as_written(self):
        castles = some_castles()
        for one, other in itertools.product(castles, repeat=2):
            alike = alike_map(one.written(), other.written()) is not None
            self.check_pair(one, other, alike)

    def test_the_same_castle_in_other_ways(self):
        for seed in range(40):
            castle = random_castle(seed)
            refined = [other_numbers(house, seed) for house in castle.refined()]
            random.Random(seed).shuffle(refined)
            self.check_both_ways(castle, Castle(tuple(refined)), True)
            self.check_both_ways(castle, Castle((other_numbers(castle.written(), seed),)), True)
            self.check_both_ways(castle, castle, True)

    def test_castles_of_another_first_hall(self):
        for seed in range(40):
            castle = random_castle(seed)
            turned = Castle(tuple(shuffled(house, seed + 1) for house in castle.parts))
            alike = alike_map(castle.written(), turned.written()) is not None
            self.check_both_ways(castle, turned, alike)


class ManyHalls(CastleCase):
    def large(self, parts):
        """A castle of houses of 64 halls in four colours each."""
        names = letters(4 * parts)
        return Castle(tuple(random_house(at, 64, names[4 * at:4 * at + 4], 30) for at in range(parts)))

    def test_seventy_two_parts(self):
        names = letters(72)
        one = Castle(edges(names))
        self.check_both_ways(one, Castle(edges(names[::-1])), True)
        self.check_both_ways(one, Castle(edges(names[:71])), False)
        self.check_both_ways(one, Castle(edges([*names[:71], "zz"])), False)
        self.check_both_ways(one, Castle(()), False)
        pair = House(2, ((0, 1, names[70]), (0, 1, names[71])))
        self.check_both_ways(one, Castle((*edges(names[:70]), pair)), False)

    def test_many_large_parts(self):
        one = self.large(16)
        again = Castle(tuple(other_numbers(house, 3) for house in one.parts[::-1]))
        self.check_both_ways(one, again, True)
        *others, last = one.parts
        self.check_both_ways(one, Castle((*others, last.recoloured(last.colours()[0], "zz"))), False)
        self.check_both_ways(one, Castle((*others, last.opened((0, 63, "zz")))), False)
        self.check_both_ways(one, Castle((*others, shuffled(last, 1))), False)

    def test_other_lots_of_the_same_colours(self):
        names = letters(48)
        for step in (5, 7, 11, 13):
            one = Castle(tuple(coloured(random_house(at, 64, "abcd", 20), names[4 * at:4 * at + 4]) for at in range(12)))
            mixed = [names[(place * step) % 48] for place in range(48)]
            other = Castle(tuple(
                coloured(random_house(at + step, 64, "abcd", 20), mixed[4 * at:4 * at + 4]) for at in range(12)))
            self.check_both_ways(one, other, False)

    def test_one_large_lot_against_many_small_ones(self):
        """All colours of a house commute, and some rows lead home that must lead home nowhere else."""
        colours = SIXTEEN[:6]
        doors = [(hall, hall ^ bits, colour) for hall in range(32)
                 for bits, colour in zip((1, 2, 4, 8, 16, 31), colours) if hall < hall ^ bits]
        folded = House(32, tuple(sorted(doors)))
        self.check_both_ways(Castle((folded,)), Castle((cube(6),)), False)
        self.check_both_ways(Castle((folded,)), Castle(edges(colours)), False)
        rest = [coloured(line(64), (name, name * 2)) for name in colours]
        self.check_both_ways(Castle((folded, *edges([name * 2 for name in colours]))), Castle(tuple(rest)), False)


class WrongArguments(Case):
    def test_not_a_castle(self):
        for call in TWO:
            for at, wrong in enumerate((*WRONG_HOUSES, path(), (path(),), Castle)):
                with self.subTest(call.__name__, at=at):
                    self.check_raises(InvalidCastle, "castle", wrong, call, wrong, Castle(()))
                    self.check_raises(InvalidCastle, "castle", wrong, call, Castle(()), wrong)

    def test_order_of_errors(self):
        for call in TWO:
            self.check_order(
                call, (Castle(()), 1, InvalidCastle, "castle", 1), (Castle(()), 2, InvalidCastle, "castle", 2))
