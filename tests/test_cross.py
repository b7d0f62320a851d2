"""Point 41, and the crosses of points 3 and 8."""

import itertools

from doorlots.errors import InvalidParts, TooManyColours, TooManyHalls
from doorlots.houses import House
from doorlots.lots import lots
from doorlots.splits import addresses, cross, unsplittable_parts
from tests.helper import (
    SIXTEEN, SQUARE_DOORS, WRONG_HOUSES, Case, cube, crossed, edge, edges, four, letters, line, path, random_crosses,
    random_house, sixteen, square,
)


class Cross(Case):
    def test_examples(self):
        doors = ((0, 1, "c"), (0, 2, "a"), (1, 3, "a"), (2, 3, "c"), (2, 4, "b"), (3, 5, "b"), (4, 5, "c"))
        self.check_gives_house(6, doors, cross, (path(), edge("c")))
        self.check_same([cross(()) == House(1), cross((House(1), House(1))).halls], [True, 1])
        self.check_raises(InvalidParts, "position", 1, cross, (edge("c"), edge("c")))

    def test_no_house_and_one_house(self):
        self.check_gives_house(1, (), cross, ())
        for house in (House(1), path(), four(), sixteen(), line(64), cube(6)):
            self.check_gives_house(house.halls, house.doors, cross, (house,))

    def test_houses_of_one_hall(self):
        self.check_gives_house(1, (), cross, (House(1),) * 1000)
        self.check_gives_house(3, path().doors, cross, (House(1), path(), House(1)))
        self.check_gives_house(4, SQUARE_DOORS, cross, (House(1), edge("b"), House(1), edge("a"), House(1)))

    def test_the_order_of_the_houses(self):
        self.check_gives_house(4, ((0, 1, "b"), (0, 2, "a"), (1, 3, "a"), (2, 3, "b")), cross, edges("ab"))
        self.check_gives_house(4, SQUARE_DOORS, cross, edges("ba"))
        doors = ((0, 1, "a"), (0, 3, "c"), (1, 2, "b"), (1, 4, "c"), (2, 5, "c"), (3, 4, "a"), (4, 5, "b"))
        self.check_gives_house(6, doors, cross, (edge("c"), path()))

    def test_parallel_doors(self):
        double = House(2, ((0, 1, "a"), (0, 1, "c")))
        doors = ((0, 1, "b"), (0, 2, "a"), (0, 2, "c"), (1, 3, "a"), (1, 3, "c"), (2, 3, "b"))
        self.check_gives_house(4, doors, cross, (double, edge("b")))

    def test_by_the_words(self):
        for seed in range(60):
            houses = (random_house(seed, 2 + seed % 4, "ax", seed % 5), random_house(seed, 2 + seed % 3, "cyz", 2),
                      random_house(seed + 1, 2, "b", 0))
            for chosen in (houses, houses[1:], houses[::-1], houses[:1], houses[:2]):
                self.check_gives_house(*crossed(chosen), cross, chosen)

    def test_the_addresses_are_the_tuples_in_ascending_order(self):
        houses = (path(), edge("d"), House(4, ((0, 1, "e"), (1, 2, "f"), (2, 3, "e"))))
        split = (("a", "b"), ("d",), ("e", "f"))
        every = tuple(itertools.product(range(3), range(2), range(4)))
        self.check_same(addresses(cross(houses), split), every)

    def test_every_house_is_the_cross_of_its_unsplittable_parts(self):
        """Apart from the numbering, which the addresses give."""
        for house in [House(1), path(), square(), cube(6), *random_crosses(40)]:
            parts = unsplittable_parts(house)
            whole = cross(parts)
            table = addresses(house, lots(house))
            self.check_same(lots(whole), lots(house))
            order = tuple(sorted(range(house.halls), key=lambda hall: table[hall]))
            self.check_house(house.renumbered(order), whole.halls, whole.doors)
            self.assertEqual(unsplittable_parts(whole), parts)


class Limits(Case):
    def test_sixty_four_halls(self):
        self.check_gives_house(64, cube(6).doors, cross, edges("abcdef"))
        self.check_gives_house(*crossed([line(32), edge("c")]), cross, (line(32), edge("c")))
        self.check_same(cross((line(8), House(8, tuple((k, k + 1, "cd"[k % 2]) for k in range(7))))).halls, 64)

    def test_more_halls(self):
        five = House(5, tuple((hall, hall + 1, "cd"[hall % 2]) for hall in range(4)))
        self.check_raises(TooManyHalls, "many", 65, cross, (line(13), five))
        self.check_raises(TooManyHalls, "many", 66, cross, (line(33), edge("c")))
        self.check_raises(TooManyHalls, "many", 128, cross, edges("abcdefg"))
        self.check_raises(TooManyHalls, "many", 2 ** 16, cross, edges(SIXTEEN))

    def test_very_many_halls(self):
        many = 15000
        self.check_raises(TooManyHalls, "many", 2 ** many, cross, edges(letters(many)))

    def test_sixteen_and_seventeen_colours(self):
        fifteen = House(2, tuple((0, 1, colour) for colour in SIXTEEN[1:]))
        self.check_gives_house(*crossed([edge("a"), fifteen]), cross, (edge("a"), fifteen))
        self.check_raises(TooManyColours, "many", 17, cross, (sixteen(), edge("q")))
        others = House(2, tuple((0, 1, colour) for colour in "qrstuvwx"))
        self.check_raises(TooManyColours, "many", 24, cross, (others, sixteen()))
        self.check_raises(TooManyColours, "many", 25, cross, (others, sixteen(), edge("z")))

    def test_halls_before_colours(self):
        self.check_raises(TooManyHalls, "many", 2 ** 17, cross, edges((*SIXTEEN, "q")))
        self.check_raises(TooManyHalls, "many", 128, cross, (cube(6), House(2, tuple((0, 1, c * 2) for c in SIXTEEN))))


class WrongParts(Case):
    def test_not_a_tuple(self):
        for houses in (None, True, 0, "", [], [edge("a")], {}, {0: edge("a")}, edge("a"), House(1), House):
            self.check_raises(InvalidParts, "position", None, cross, houses)

    def test_not_a_house(self):
        for at, house in enumerate(WRONG_HOUSES):
            with self.subTest(at=at):
                self.check_raises(InvalidParts, "position", 0, cross, (house,))
                self.check_raises(InvalidParts, "position", 1, cross, (edge("a"), house, edge("a")))
                self.check_raises(InvalidParts, "position", 2, cross, (*edges("ab"), house))
        self.check_raises(InvalidParts, "position", 0, cross, (edges("ab"),))
        self.check_raises(InvalidParts, "position", 0, cross, ([edge("a")],))

    def test_a_colour_in_common(self):
        self.check_raises(InvalidParts, "position", 1, cross, (path(), edge("b")))
        self.check_raises(InvalidParts, "position", 2, cross, (path(), edge("c"), edge("a")))
        self.check_raises(InvalidParts, "position", 2, cross, (edge("c"), House(1), House(2, ((0, 1, "b"), (0, 1, "c")))))
        self.check_raises(InvalidParts, "position", 1, cross, (sixteen(), edge("p"), None))

    def test_parts_before_limits(self):
        self.check_raises(InvalidParts, "position", 7, cross, (*edges("abcdefg"), edge("a")))
        self.check_raises(InvalidParts, "position", 7, cross, (*edges("abcdefg"), None))
        self.check_raises(InvalidParts, "position", 2, cross, (sixteen(), edge("q"), edge("q")))
        self.check_raises(InvalidParts, "position", 2, cross, (line(64), edge("c"), "house 1"))

    def test_the_houses_stay(self):
        houses = (path(), edge("c"))
        cross(houses)
        self.check_house(houses[0], 3, path().doors)
        self.check_house(houses[1], 2, ((0, 1, "c"),))
        given = [edge("a")]
        self.check_raises(InvalidParts, "position", None, cross, given)
        self.assertEqual(given, [edge("a")])
