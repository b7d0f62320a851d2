"""The errors of the program, each under one of three base classes.

A message shows only small numbers and colours that the program itself has found. An argument may be of any kind,
and to write it out could fail; it is in the field.
"""


class InvalidInput(ValueError):
    """An argument is not valid."""


class StateError(RuntimeError):
    """The arguments are valid, but what they ask for does not fit."""


class LimitExceeded(ArithmeticError):
    """A result would be too large."""


class InvalidHalls(InvalidInput):
    def __init__(self, halls):
        InvalidInput.__init__(self, "the number of halls is not an integer from 1 to 64")
        self.halls = halls


class InvalidDoors(InvalidInput):
    def __init__(self, position):
        InvalidInput.__init__(self, f"not an ascending tuple of doors that fit together, at {position}")
        self.position = position


class InvalidHouse(InvalidInput):
    def __init__(self, house):
        InvalidInput.__init__(self, "not a House")
        self.house = house


class InvalidHall(InvalidInput):
    def __init__(self, hall):
        InvalidInput.__init__(self, "not a hall of the house")
        self.hall = hall


class InvalidColour(InvalidInput):
    def __init__(self, colour):
        InvalidInput.__init__(self, "not a colour")
        self.colour = colour


class InvalidDoor(InvalidInput):
    def __init__(self, door):
        InvalidInput.__init__(self, "not a door between two halls of the house")
        self.door = door


class InvalidOrder(InvalidInput):
    def __init__(self, order):
        InvalidInput.__init__(self, "not a tuple with each hall of the house exactly once")
        self.order = order


class InvalidRow(InvalidInput):
    def __init__(self, position):
        InvalidInput.__init__(self, f"not a row, at {position}")
        self.position = position


class InvalidTimes(InvalidInput):
    def __init__(self, times):
        InvalidInput.__init__(self, "the number of times is not an integer from 0 to 10 ** 30")
        self.times = times


class InvalidLength(InvalidInput):
    def __init__(self, length):
        InvalidInput.__init__(self, "the length is not an integer from 0 to 200")
        self.length = length


class InvalidColours(InvalidInput):
    def __init__(self, position):
        InvalidInput.__init__(self, f"not an ascending tuple of colours, at {position}")
        self.position = position


class InvalidGrouping(InvalidInput):
    def __init__(self, position):
        InvalidInput.__init__(self, f"not a grouping of the house, at {position}")
        self.position = position


class InvalidAddress(InvalidInput):
    def __init__(self, address):
        InvalidInput.__init__(self, "not a tuple with one hall of each part")
        self.address = address


class InvalidParts(InvalidInput):
    def __init__(self, position):
        InvalidInput.__init__(self, f"not a tuple of Houses that can be crossed, at {position}")
        self.position = position


class InvalidCastle(InvalidInput):
    def __init__(self, castle):
        InvalidInput.__init__(self, "not a Castle")
        self.castle = castle


class InvalidDeed(InvalidInput):
    def __init__(self, position):
        InvalidInput.__init__(self, f"not a deed, at {position}")
        self.position = position


class InvalidText(InvalidInput):
    def __init__(self, line):
        InvalidInput.__init__(self, f"not the text of a house, at line {line}")
        self.line = line


class InvalidCommand(InvalidInput):
    def __init__(self, command):
        InvalidInput.__init__(self, "not a command")
        self.command = command


class Unreachable(StateError):
    def __init__(self, hall):
        StateError.__init__(self, f"hall {hall} cannot be reached from hall 0")
        self.hall = hall


class UnknownColour(StateError):
    def __init__(self, colour):
        StateError.__init__(self, "not a colour of the house, or not another one")
        self.colour = colour


class ColourTaken(StateError):
    def __init__(self, colour):
        StateError.__init__(self, f"the house already has the colour {colour}")
        self.colour = colour


class SharedColour(StateError):
    def __init__(self, colour):
        StateError.__init__(self, f"both houses have the colour {colour}")
        self.colour = colour


class DoorTaken(StateError):
    def __init__(self, hall):
        StateError.__init__(self, f"hall {hall} already has a door of this colour")
        self.hall = hall


class NoDoor(StateError):
    def __init__(self, door):
        StateError.__init__(self, "not a door of the house")
        self.door = door


class NotASplit(StateError):
    def __init__(self, grouping):
        StateError.__init__(self, "the grouping is not a split of the house")
        self.grouping = grouping


class UnknownLot(StateError):
    def __init__(self, lot):
        StateError.__init__(self, "not a lot of the finest split")
        self.lot = lot


class NothingToUndo(StateError):
    def __init__(self):
        StateError.__init__(self, "the log is empty")


class TooManyHalls(LimitExceeded):
    def __init__(self, many):
        # A cross can have so many halls that Python refuses to write their number.
        LimitExceeded.__init__(self, "too many halls")
        self.many = many


class TooManyColours(LimitExceeded):
    def __init__(self, many):
        LimitExceeded.__init__(self, f"{many} colours are too many")
        self.many = many
