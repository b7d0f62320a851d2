"""Claims with certificates that the checker accepts."""

from doorlots.alike import difference, map_between
from doorlots.arguments import check_hall, check_house, check_row, check_times
from doorlots.distances import check_two_halls, distances_from, least_way
from doorlots.linking import distance_table, least_corner, least_stretch, links
from doorlots.lots import chain, lots
from doorlots.splits import addresses
from doorlots.walks import cycle_from, goals_of


def link_between(house, far, one, other):
    """A link of two colours that have one, by a table of distances."""
    hall = least_corner(house, one, other)
    if hall is not None:
        return "corner", one, other, hall
    door, other_door = least_stretch(house, far, one, other)
    return "stretch", door, other_door


def links_between(house, pairs):
    """The tuple of links of these pairs of colours."""
    far = distance_table(house)
    return tuple([link_between(house, far, one, other) for one, other in pairs])


def certify_split(house, grouping):
    """A claim that the grouping is a split, with its table of addresses."""
    table = addresses(house, grouping)
    return ("split", house.halls, house.doors, grouping), table


def certify_pair(house, one, other):
    """A claim that two colours are free, with a split that shows it, or that they are bound, with links."""
    colours = chain(house, one, other)
    if colours is None:
        split = lots(house)
        return ("free", house.halls, house.doors, one, other), (split, addresses(house, split))
    return ("bound", house.halls, house.doors, one, other), links_between(house, list(zip(colours, colours[1:])))


def certify_finest(house):
    """A claim that a grouping is the finest split, with its table of addresses and all pairs of linked colours."""
    split = lots(house)
    claim = ("finest", house.halls, house.doors, split)
    return claim, (addresses(house, split), links_between(house, links(house)))


def certify_alike(one, other):
    """A claim that two houses are alike from hall 0 and a hall, with the map, or unlike, with a row for each hall."""
    check_house(one)
    check_house(other)
    houses = (one.halls, one.doors, other.halls, other.doors)
    for hall in range(other.halls):
        found = map_between(one.ways, other.ways, 0, hall)
        if found is not None:
            return ("alike", *houses, hall), found
    return ("unlike", *houses), tuple([difference(one, other, other_start=hall) for hall in range(other.halls)])


def certify_distance(house, start, goal):
    """A claim of a distance, with a row that is so long and with the distances of all halls from the start."""
    check_two_halls(house, start, goal)
    heights = distances_from(house, start)
    claim = ("distance", house.halls, house.doors, start, goal, heights[goal])
    return claim, (least_way(house, start, goal), tuple(heights))


def certify_repeat(house, start, row, times):
    """A claim where a row leads that is done so many times, with the halls to which it leads one after the other."""
    check_house(house)
    check_hall(house, start)
    check_row(row)
    check_times(times)
    cycle = cycle_from(goals_of(house, row), start)
    claim = ("repeat", house.halls, house.doors, start, row, times, cycle[times % len(cycle)])
    return claim, tuple(cycle)
