"""Links: what shows at one place that two colours are bound."""

from doorlots.arguments import check_house, check_two_colours
from doorlots.distances import distances_from


def is_corner(house, first, second, hall):
    """Whether the pair of these colours, in this order, has a corner link at the hall."""
    here = house.ways[hall]
    if first not in here:
        return False
    there = house.ways[here[first]]
    if second not in here or second not in there:
        return second in here or second in there
    last = here[second]
    return there[second] != house.ways[last].get(first, last)


def least_corner(house, one, other):
    """The least hall at which the two colours have a corner link, or None."""
    for hall in range(house.halls):
        if is_corner(house, one, other, hall) or is_corner(house, other, one, hall):
            return hall
    return None


def distance_table(house):
    """A list with, for each hall, the list of the distances of all halls from it."""
    return [distances_from(house, hall) for hall in range(house.halls)]


def is_stretch(far, door, other_door):
    """Whether there is a stretch link by these doors of two colours, by a table of distances."""
    low, high, colour = door
    other_low, other_high, other_colour = other_door
    return far[low][other_low] + far[high][other_high] != far[low][other_high] + far[high][other_low]


def doors_of(house, colour):
    """The ascending list of the doors of this colour."""
    return [door for door in house.doors if door[2] == colour]


def least_stretch(house, far, one, other):
    """The least pair of doors by which the two colours have a stretch link, or None."""
    others = doors_of(house, other)
    for door in doors_of(house, one):
        for other_door in others:
            if is_stretch(far, door, other_door):
                return door, other_door
    return None


def corner_link(house, one, other):
    """The least hall at which the two colours have a corner link, or None."""
    check_house(house)
    check_two_colours(house, one, other)
    return least_corner(house, one, other)


def stretch_link(house, one, other):
    """The least pair (DOOR, OTHER_DOOR) by which the two colours have a stretch link, or None."""
    check_house(house)
    check_two_colours(house, one, other)
    return least_stretch(house, distance_table(house), one, other)


def links(house):
    """The ascending tuple of the pairs of colours that have a link, the lesser colour first."""
    check_house(house)
    far = distance_table(house)
    colours = house.colours()
    pairs = [(one, other) for at, one in enumerate(colours) for other in colours[at + 1:]]
    return tuple([
        (one, other) for one, other in pairs
        if least_corner(house, one, other) is not None or least_stretch(house, far, one, other) is not None
    ])
