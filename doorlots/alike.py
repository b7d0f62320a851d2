"""Comparing houses: the map by which they are alike, or a row that leads home in one of them only."""

from doorlots.arguments import check_hall, check_house
from doorlots.errors import TooManyColours

MOST_RENAMED = 5


def map_between(ways, other_ways, start, other_start):
    """The map by which two houses are alike from these halls, or None; of each house only the ways are given."""
    if len(ways) != len(other_ways):
        return None
    taken = {start: other_start}
    waiting = [start]
    while waiting:
        hall = waiting.pop()
        here, there = ways[hall], other_ways[taken[hall]]
        if sorted(here) != sorted(there):
            return None
        for colour, goal in here.items():
            if goal not in taken:
                taken[goal] = there[colour]
                waiting.append(goal)
            elif taken[goal] != there[colour]:
                return None
    # All doors of a hall to which a hall is taken lead to such halls, so all halls of the second house are among them.
    # It has as many halls as the first one, so no two halls are taken to the same one.
    return tuple([taken[hall] for hall in range(len(ways))])


def pushed_pair(one, other, pair, colour):
    """The pair of halls to which pushing the colour leads, in one house and in the other."""
    hall, other_hall = pair
    return one.ways[hall].get(colour, hall), other.ways[other_hall].get(colour, other_hall)


def first_row(one, other, pair, is_wanted):
    """The least of the shortest rows from this pair of halls to a pair of halls that is wanted, or None.

    This pair itself is not wanted.
    """
    colours = sorted(set(one.colours()) | set(other.colours()))
    rows = {pair: ()}
    layer = [pair]
    # The pairs of a layer are in the order of their least rows, because those of the layer before it are.
    while layer:
        further = []
        for before in layer:
            for colour in colours:
                after = pushed_pair(one, other, before, colour)
                if after not in rows:
                    rows[after] = rows[before] + (colour,)
                    further.append(after)
                    if is_wanted(after):
                        return rows[after]
        layer = further
    return None


def check_two_houses(one, other, start, other_start):
    check_house(one)
    check_house(other)
    check_hall(one, start)
    check_hall(other, other_start)


def alike_map(one, other, *, start=0, other_start=0):
    """The map by which the two Houses are alike from these halls, or None."""
    check_two_houses(one, other, start, other_start)
    return map_between(one.ways, other.ways, start, other_start)


def difference(one, other, *, start=0, other_start=0):
    """The least of the shortest rows that lead home in exactly one of the two Houses, or None."""
    check_two_houses(one, other, start, other_start)
    return first_row(one, other, (start, other_start), lambda pair: (pair[0] == start) != (pair[1] == other_start))


def symmetries(house):
    """The ascending tuple of the halls H such that the house is alike to itself from hall 0 and hall H."""
    check_house(house)
    return tuple([hall for hall in range(house.halls) if map_between(house.ways, house.ways, 0, hall) is not None])


def orders(colours):
    """The ascending list of all orders of an ascending tuple of colours."""
    if len(colours) == 0:
        return [()]
    found = []
    for at, first in enumerate(colours):
        found.extend([(first,) + order for order in orders(colours[:at] + colours[at + 1:])])
    return found


def check_few_colours(house):
    check_house(house)
    many = len(house.colours())
    if many > MOST_RENAMED:
        raise TooManyColours(many)


def renamed_map(one, other, names):
    """The least map from hall 0 by which the House `one`, with these names of its colours, is alike to `other`."""
    ways = [{names[colour]: goal for colour, goal in here.items()} for here in one.ways]
    for hall in range(other.halls):
        found = map_between(ways, other.ways, 0, hall)
        if found is not None:
            return found
    return None


def renaming(one, other):
    """The least new names of the colours by which `one` is alike to `other`, and the least map with them, or None."""
    check_few_colours(one)
    check_few_colours(other)
    colours = one.colours()
    if len(colours) != len(other.colours()):
        return None
    for names in orders(other.colours()):
        pairs = tuple(zip(colours, names))
        found = renamed_map(one, other, dict(pairs))
        if found is not None:
            return pairs, found
    return None
