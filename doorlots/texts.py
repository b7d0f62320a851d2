"""Reading the text of a house."""

from doorlots.errors import InvalidDoors, InvalidHalls, InvalidText, Unreachable
from doorlots.houses import House

DIGITS = "0123456789"
MOST_DIGITS = 31


def number_of(word):
    """The number that the word writes, or None."""
    # No number that the program takes has more digits, and Python itself refuses to read very long ones.
    if word == "" or len(word) > MOST_DIGITS:
        return None
    if not all([digit in DIGITS for digit in word]) or (word[0] == "0" and word != "0"):
        return None
    return int(word)


def halls_of(line):
    """The number of halls that the first line of a text writes, or None."""
    words = line.split(" ")
    if len(words) != 2 or words[0] != "house":
        return None
    return number_of(words[1])


def door_of(line):
    """What the line of a door writes, with None in the place of what is not a number, or None."""
    words = line.split(" ")
    if len(words) != 3:
        return None
    return number_of(words[0]), number_of(words[1]), words[2]


def read_house(text):
    """The House whose text this is."""
    if not isinstance(text, str):
        raise InvalidText(0)
    lines = text.split("\n")
    doors = tuple([door_of(line) for line in lines[1:]])
    # A line that is not written well is not a door either, so House finds the first wrong line of both kinds.
    try:
        return House(halls_of(lines[0]), doors)
    except InvalidHalls:
        raise InvalidText(0) from None
    except InvalidDoors as error:
        raise InvalidText(error.position + 1) from None
    except Unreachable:
        raise InvalidText(len(lines)) from None
