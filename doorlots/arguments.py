"""The arguments that occur in many functions, and the errors that they raise."""

from doorlots.bounds import MOST_LENGTH, MOST_ROW, MOST_TIMES
from doorlots.errors import (
    InvalidColours, InvalidGrouping, InvalidHall, InvalidHouse, InvalidLength, InvalidRow, InvalidTimes, UnknownColour,
)
from doorlots.houses import House, is_colour, is_hall, is_whole


def check_house(house):
    if not isinstance(house, House):
        raise InvalidHouse(house)


def check_hall(house, hall):
    if not is_hall(hall, house.halls):
        raise InvalidHall(hall)


def is_among(value, colours):
    """Whether the value, of any kind, is one of these colours."""
    return is_colour(value) and value in colours


def check_two_colours(house, one, other):
    known = house.colours()
    if not is_among(one, known):
        raise UnknownColour(one)
    if not is_among(other, known) or other == one:
        raise UnknownColour(other)


def check_pushes(row):
    """The part of the check of a row that does not look at its colours."""
    if not isinstance(row, tuple) or len(row) > MOST_ROW:
        raise InvalidRow(None)


def check_row(row):
    check_pushes(row)
    for position, colour in enumerate(row):
        if not is_colour(colour):
            raise InvalidRow(position)


def check_row_of(house, row):
    """The check of a row that has colours of the house only."""
    check_pushes(row)
    known = house.colours()
    for position, colour in enumerate(row):
        if not is_among(colour, known):
            raise InvalidRow(position)


def check_times(times):
    if not is_whole(times) or times < 0 or times > MOST_TIMES:
        raise InvalidTimes(times)


def check_length(length):
    if not is_whole(length) or length < 0 or length > MOST_LENGTH:
        raise InvalidLength(length)


def is_in_order(values, position):
    """Whether the value at this position is greater than the value before it."""
    return position == 0 or values[position - 1] < values[position]


def check_any_colours(colours):
    """The check of an ascending tuple of colours, whatever houses have them."""
    if not isinstance(colours, tuple):
        raise InvalidColours(None)
    for position, colour in enumerate(colours):
        if not is_colour(colour) or not is_in_order(colours, position):
            raise InvalidColours(position)


def check_colours(house, colours):
    if not isinstance(colours, tuple):
        raise InvalidColours(None)
    known = house.colours()
    for position, colour in enumerate(colours):
        if not is_among(colour, known) or not is_in_order(colours, position):
            raise InvalidColours(position)


def is_lot(value, known):
    """Whether the value is a non-empty ascending tuple of these colours."""
    if not isinstance(value, tuple) or len(value) == 0:
        return False
    if not all([is_among(colour, known) for colour in value]):
        return False
    return all([is_in_order(value, position) for position in range(len(value))])


def check_grouping(house, grouping):
    if not isinstance(grouping, tuple):
        raise InvalidGrouping(None)
    known = house.colours()
    taken = {}
    for position, lot in enumerate(grouping):
        if not is_lot(lot, known) or not is_in_order(grouping, position):
            raise InvalidGrouping(position)
        if any([colour in taken for colour in lot]):
            raise InvalidGrouping(position)
        for colour in lot:
            taken[colour] = True
    if len(taken) < len(known):
        raise InvalidGrouping(None)
