"""Castles: crosses of houses that are not written out.

A row does in each part what its pushes of the part's colours do there. So every answer is put together from the parts.
"""

from doorlots.alike import difference, first_row, map_between
from doorlots.arguments import check_length, check_row, check_times
from doorlots.bounds import MOST_PARTS
from doorlots.counts import counts_up_to
from doorlots.distances import distances_from, least_way, sphere_sizes, way_count
from doorlots.errors import InvalidAddress, InvalidCastle, InvalidParts
from doorlots.rows import least_mix, mix_count
from doorlots.splits import check_parts, cross, halls_of_cross, is_address, part, unsplittable_parts
from doorlots.walks import common_multiple, hall_after, halls_on_the_way, times_until_home


def check_address(parts, address):
    if not is_address(address, parts):
        raise InvalidAddress(address)


def part_distances(parts, start, goal):
    """A list with, for each part, the distance between the components of two addresses."""
    return [distances_from(house, hall)[end] for house, hall, end in zip(parts, start, goal)]


def crossed_sizes(sizes, other_sizes):
    """The sizes of the spheres in the cross of two houses, from the sizes in both."""
    crossed = [0] * (len(sizes) + len(other_sizes) - 1)
    for far, many in enumerate(sizes):
        for other_far, other_many in enumerate(other_sizes):
            crossed[far + other_far] += many * other_many
    return crossed


def crossed_counts(counts, other_counts):
    """The numbers of rows by their lengths in the cross of two houses, from the numbers in both."""
    crossed = []
    # The number of ways to choose 0, 1, 2 and so on places in a row for the pushes of the first house.
    choices = [1]
    for length in range(len(counts)):
        crossed.append(sum([
            choice * counts[many] * other_counts[length - many] for many, choice in enumerate(choices)
        ]))
        choices = [1, *[low + high for low, high in zip(choices, choices[1:])], 1]
    return crossed


class Castle:
    """The cross of a tuple of Houses, which is not written out. It never changes."""

    def __init__(self, parts):
        if not isinstance(parts, tuple) or len(parts) > MOST_PARTS:
            raise InvalidParts(None)
        check_parts(parts, 2)
        self.parts = parts

    def __eq__(self, other):
        return isinstance(other, Castle) and self.parts == other.parts

    def __len__(self):
        return len(self.parts)

    def __repr__(self):
        return f"Castle({len(self.parts)} parts, {halls_of_cross(self.parts)} halls)"

    def hall_count(self):
        """The number of halls."""
        return halls_of_cross(self.parts)

    def colours(self):
        """The ascending tuple of all colours."""
        return tuple(sorted([colour for house in self.parts for colour in house.colours()]))

    def origin(self):
        """The address of zeros."""
        return (0,) * len(self.parts)

    def moved(self, address, row):
        """The address to which the row leads."""
        check_address(self.parts, address)
        check_row(row)
        return tuple([halls_on_the_way(house, hall, row)[-1] for house, hall in zip(self.parts, address)])

    def moved_times(self, address, row, times):
        """The address to which the row leads if it is done so many times."""
        check_address(self.parts, address)
        check_row(row)
        check_times(times)
        return tuple([hall_after(house, hall, row, times) for house, hall in zip(self.parts, address)])

    def period(self, row):
        """The least number from 1 on such that the row done so many times leads home from every address."""
        check_row(row)
        times = 1
        for house in self.parts:
            times = common_multiple(times, times_until_home(house, row))
        return times

    def distance(self, start, goal):
        """The distance between two addresses."""
        check_address(self.parts, start)
        check_address(self.parts, goal)
        return sum(part_distances(self.parts, start, goal))

    def shortest_row(self, start, goal):
        """The least of the shortest rows that lead from one address to the other."""
        check_address(self.parts, start)
        check_address(self.parts, goal)
        return least_mix([least_way(house, hall, end) for house, hall, end in zip(self.parts, start, goal)])

    def shortest_count(self, start, goal):
        """The number of shortest rows that lead from one address to the other."""
        check_address(self.parts, start)
        check_address(self.parts, goal)
        count = mix_count(part_distances(self.parts, start, goal))
        for house, hall, end in zip(self.parts, start, goal):
            count *= way_count(house, hall, end)
        return count

    def spheres(self, start):
        """A tuple with the number of halls at distance 0, 1, 2 and so on from this address."""
        check_address(self.parts, start)
        sizes = [1]
        for house, hall in zip(self.parts, start):
            sizes = crossed_sizes(sizes, sphere_sizes(house, hall))
        return tuple(sizes)

    def rows_between(self, start, goal, length):
        """The number of rows of exactly this many colours of the castle that lead from one address to the other."""
        check_address(self.parts, start)
        check_address(self.parts, goal)
        check_length(length)
        counts = [1] + [0] * length
        for house, hall, end in zip(self.parts, start, goal):
            counts = crossed_counts(counts, counts_up_to(house, hall, end, length))
        return counts[length]

    def refined(self):
        """The tuple of the unsplittable parts of all parts, in the order of their colours."""
        houses = [smaller for house in self.parts for smaller in unsplittable_parts(house)]
        return tuple(sorted(houses, key=lambda house: house.colours()))

    def written(self):
        """The cross of the parts as a House."""
        return cross(self.parts)


def check_castle(castle):
    if not isinstance(castle, Castle):
        raise InvalidCastle(castle)


def are_alike(one, other):
    """Whether the two Castles, written out, are alike from their origins."""
    check_castle(one)
    check_castle(other)
    parts, other_parts = one.refined(), other.refined()
    if len(parts) != len(other_parts):
        return False
    # A house is a cross of unsplittable houses in one way only.
    return all([
        map_between(house.ways, other_house.ways, 0, 0) is not None for house, other_house in zip(parts, other_parts)
    ])


def pieces_by(parts, colours):
    """A list of the parts by these colours of those houses that have some of them."""
    shared = [(house, tuple([colour for colour in house.colours() if colour in colours])) for house in parts]
    return [part(house, some)[0] for house, some in shared if some]


def is_first_home(pair):
    """Whether the walker is home in the first of two houses only, from hall 0 in both."""
    return pair[0] == 0 and pair[1] != 0


def part_difference(house, other_parts):
    """A row of the colours of the house that leads home in exactly one of the house and the cross of the others.

    It is None if these colours do the same in both.
    """
    pieces = pieces_by(other_parts, house.colours())
    for piece in pieces:
        row = first_row(house, piece, (0, 0), is_first_home)
        if row is not None:
            return row
    # Now what leads home in the house leads home in all pieces. So their cross does not have more halls than the house.
    return difference(house, cross(tuple(pieces)))


def castle_difference(one, other):
    """A row that leads home from the origin in exactly one of the two Castles, or None if they are alike."""
    check_castle(one)
    check_castle(other)
    parts, other_parts = one.refined(), other.refined()
    # If the colours of each unsplittable part do the same in the other castle, then both have the same such parts.
    # No row has more than 127 colours: all that leads home in a house is put together from rows that go a shortest way
    # to some hall, push one colour, and go a shortest way home. If all of these lead home elsewhere, then all does.
    for house in parts:
        row = part_difference(house, other_parts)
        if row is not None:
            return row
    for house in other_parts:
        row = part_difference(house, parts)
        if row is not None:
            return row
    return None
