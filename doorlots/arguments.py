"""The arguments that occur in many functions, and the errors that they raise."""

from doorlots.bounds import MOST_ROW, MOST_TIMES
from doorlots.errors import InvalidHall, InvalidHouse, InvalidRow, InvalidTimes, UnknownColour
from doorlots.houses import House, is_colour, is_hall, is_whole


def check_house(house):
    if not isinstance(house, House):
        raise InvalidHouse(house)


def check_hall(house, hall):
    if not is_hall(hall, house.halls):
        raise InvalidHall(hall)


def has_colour(house, value):
    """Whether the value, of any kind, is a colour of the house."""
    return is_colour(value) and value in house.colours()


def check_two_colours(house, one, other):
    if not has_colour(house, one):
        raise UnknownColour(one)
    if not has_colour(house, other) or other == one:
        raise UnknownColour(other)


def check_row(row):
    if not isinstance(row, tuple) or len(row) > MOST_ROW:
        raise InvalidRow(None)
    for position, colour in enumerate(row):
        if not is_colour(colour):
            raise InvalidRow(position)


def check_times(times):
    if not is_whole(times) or times < 0 or times > MOST_TIMES:
        raise InvalidTimes(times)
