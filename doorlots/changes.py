"""Doors whose loss makes two colours free."""

from doorlots.arguments import check_house, check_two_colours
from doorlots.errors import TooManyHalls, Unreachable
from doorlots.lots import are_bound

MOST_HALLS_TO_CHANGE = 16


def without(house, door):
    """The House without this door, or None if some hall could not be reached then."""
    try:
        return house.shut(door)
    except Unreachable:
        return None


def has_free(house, one, other):
    """Whether the house has these two colours, and has them free."""
    colours = house.colours()
    return one in colours and other in colours and not are_bound(house, one, other)


def is_freeing(house, door, one, other):
    """Whether the house without this door exists and has the two colours free."""
    smaller = without(house, door)
    return smaller is not None and has_free(smaller, one, other)


def freeing_doors(house, one, other):
    """The ascending tuple of the doors without which the house has both colours, and has them free."""
    check_house(house)
    if house.halls > MOST_HALLS_TO_CHANGE:
        raise TooManyHalls(house.halls)
    check_two_colours(house, one, other)
    return tuple([door for door in house.doors if is_freeing(house, door, one, other)])
