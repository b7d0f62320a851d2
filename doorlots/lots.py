"""The finest split of a house, and the chains of links that show why no split is finer."""

from doorlots.arguments import check_house, check_two_colours
from doorlots.distances import steps_from
from doorlots.linking import links


def linked_colours(house):
    """A dict from each colour of the house to the ascending list of the colours that have a link with it."""
    linked = {colour: [] for colour in house.colours()}
    # The pairs are ascending: a colour is first in the second place, with lesser ones, then in the first place.
    for one, other in links(house):
        linked[one].append(other)
        linked[other].append(one)
    return linked


def lots(house):
    """The finest split of the house, an ascending tuple of lots."""
    check_house(house)
    linked = linked_colours(house)
    found = []
    placed = {}
    for colour in linked:
        if colour not in placed:
            lot = tuple(sorted(steps_from(linked, colour)))
            found.append(lot)
            for member in lot:
                placed[member] = True
    return tuple(found)


def are_bound(house, one, other):
    """Whether the two colours are in the same lot of every split."""
    return chain(house, one, other) is not None


def chain(house, one, other):
    """The least of the shortest chains of links from one colour to the other, or None if they are free."""
    check_house(house)
    check_two_colours(house, one, other)
    linked = linked_colours(house)
    left = steps_from(linked, other)
    if one not in left:
        return None
    colours = [one]
    while colours[-1] != other:
        last = colours[-1]
        nearer = [colour for colour in linked[last] if left[colour] < left[last]]
        colours.append(nearer[0])
    return tuple(colours)
