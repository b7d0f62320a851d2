"""Houses: halls that are joined by coloured doors."""

from doorlots.bounds import MOST_COLOURS, MOST_HALLS
from doorlots.errors import (
    ColourTaken, DoorTaken, InvalidColour, InvalidDoor, InvalidDoors, InvalidHall, InvalidHalls, InvalidOrder, NoDoor,
    TooManyColours, UnknownColour, Unreachable,
)

LETTERS = "abcdefghijklmnopqrstuvwxyz"
MOST_LETTERS = 6


def is_whole(value):
    """Whether the value is an integer; Python counts True and False among them, the program does not."""
    return isinstance(value, int) and not isinstance(value, bool)


def is_colour(value):
    """Whether the value, of any kind, is a colour."""
    if not isinstance(value, str) or value == "" or len(value) > MOST_LETTERS:
        return False
    return all([letter in LETTERS for letter in value])


def is_hall(value, halls):
    """Whether the value is one of so many halls."""
    return is_whole(value) and 0 <= value < halls


def is_door(value, halls):
    """Whether the value is a door between two of so many halls."""
    if not isinstance(value, tuple) or len(value) != 3:
        return False
    low, high, colour = value
    return is_hall(low, halls) and is_hall(high, halls) and low < high and is_colour(colour)


def is_order(value, halls):
    """Whether the value is a tuple with each of so many halls exactly once."""
    if not isinstance(value, tuple) or not all([is_whole(hall) for hall in value]):
        return False
    return sorted(value) == list(range(halls))


def ways_of(halls, doors):
    """A list with, for each hall, a dict from the colours of its doors to the halls at their other ends."""
    ways = [{} for hall in range(halls)]
    colours = {}
    for position, door in enumerate(doors):
        if not is_door(door, halls) or (position > 0 and door <= doors[position - 1]):
            raise InvalidDoors(position)
        low, high, colour = door
        colours[colour] = True
        if colour in ways[low] or colour in ways[high] or len(colours) > MOST_COLOURS:
            raise InvalidDoors(position)
        ways[low][colour] = high
        ways[high][colour] = low
    return ways


def least_unreached(ways):
    """The least hall that cannot be reached from hall 0, or None."""
    reached = {0: True}
    waiting = [0]
    while waiting:
        hall = waiting.pop()
        for goal in ways[hall].values():
            if goal not in reached:
                reached[goal] = True
                waiting.append(goal)
    for hall in range(len(ways)):
        if hall not in reached:
            return hall
    return None


class House:
    """A house with halls that are numbered from 0, and an ascending tuple of doors. It never changes."""

    def __init__(self, halls, doors=()):
        if not is_whole(halls) or halls < 1 or halls > MOST_HALLS:
            raise InvalidHalls(halls)
        if not isinstance(doors, tuple):
            raise InvalidDoors(None)
        ways = ways_of(halls, doors)
        hall = least_unreached(ways)
        if hall is not None:
            raise Unreachable(hall)
        self.halls = halls
        self.doors = doors
        self.ways = ways

    def __eq__(self, other):
        return isinstance(other, House) and self.halls == other.halls and self.doors == other.doors

    def __len__(self):
        return len(self.ways)

    def __repr__(self):
        return f"House({self.halls} halls, {len(self.doors)} doors)"

    def __str__(self):
        lines = [f"{low} {high} {colour}" for low, high, colour in self.doors]
        return "\n".join([f"house {self.halls}", *lines])

    def colours(self):
        """The ascending tuple of the colours of the house."""
        return tuple(sorted({colour for low, high, colour in self.doors}))

    def through(self, hall, colour):
        """The hall to which pushing the colour leads from this hall."""
        if not is_hall(hall, self.halls):
            raise InvalidHall(hall)
        if not is_colour(colour):
            raise InvalidColour(colour)
        return self.ways[hall].get(colour, hall)

    def doors_at(self, hall):
        """The ascending tuple of (COLOUR, HALL) for the doors at this hall."""
        if not is_hall(hall, self.halls):
            raise InvalidHall(hall)
        return tuple(sorted(self.ways[hall].items()))

    def opened(self, door):
        """The House with one more door."""
        if not is_door(door, self.halls):
            raise InvalidDoor(door)
        low, high, colour = door
        for hall in (low, high):
            if colour in self.ways[hall]:
                raise DoorTaken(hall)
        colours = self.colours()
        if colour not in colours and len(colours) == MOST_COLOURS:
            raise TooManyColours(MOST_COLOURS + 1)
        return House(self.halls, tuple(sorted([*self.doors, door])))

    def shut(self, door):
        """The House without this door."""
        # A tuple with True or False can be equal to a door, so `in` alone would not do.
        if not is_door(door, self.halls) or door not in self.doors:
            raise NoDoor(door)
        return House(self.halls, tuple([kept for kept in self.doors if kept != door]))

    def recoloured(self, old, new):
        """The House in which all doors of the colour `old` have the colour `new`."""
        colours = self.colours()
        if not is_colour(old) or old not in colours:
            raise UnknownColour(old)
        if not is_colour(new):
            raise InvalidColour(new)
        if new in colours:
            raise ColourTaken(new)
        doors = [(low, high, new if colour == old else colour) for low, high, colour in self.doors]
        return House(self.halls, tuple(sorted(doors)))

    def renumbered(self, order):
        """The House in which the hall `order[K]` of this house has the number K."""
        if not is_order(order, self.halls):
            raise InvalidOrder(order)
        numbers = {hall: number for number, hall in enumerate(order)}
        doors = []
        for low, high, colour in self.doors:
            ends = sorted([numbers[low], numbers[high]])
            doors.append((ends[0], ends[1], colour))
        return House(self.halls, tuple(sorted(doors)))
