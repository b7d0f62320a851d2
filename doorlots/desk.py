"""Desks: a Keep that is asked and changed by commands."""

from doorlots.certificates import certify_pair
from doorlots.checker import holds
from doorlots.distances import distance, shortest_row
from doorlots.errors import InvalidCommand
from doorlots.houses import is_colour
from doorlots.keep import Keep
from doorlots.lots import are_bound, chain, lots
from doorlots.splits import addresses
from doorlots.texts import number_of
from doorlots.walks import repeated, walk

# What stands behind the first word of a command; the last place "colours" stands for one or more colours.
FORMS = {
    "push": ("colour",), "open": ("number", "number", "colour"), "shut": ("number", "number", "colour"),
    "recolour": ("colour", "colour"), "drop": ("colours",), "undo": (), "house": (), "hall": (), "lots": (),
    "pair": ("colour", "colour"), "chain": ("colour", "colour"), "distance": ("number", "number"),
    "row": ("number", "number"), "address": (), "walk": ("colours",), "repeat": ("number", "colours"),
    "certify": ("colour", "colour"),
}


def joined(values, sign):
    """The values, written with this sign between them, or a dash if there are none."""
    return sign.join([str(value) for value in values]) if len(values) > 0 else "-"


def say_push(keep, told):
    keep.do(("push", told[0]))
    return str(keep.walker())


def say_open(keep, told):
    keep.do(("open", *told))
    return "ok"


def say_shut(keep, told):
    keep.do(("shut", *told))
    return "ok"


def say_recolour(keep, told):
    keep.do(("recolour", *told))
    return "ok"


def say_drop(keep, told):
    keep.do(("drop", tuple(told)))
    return "ok"


def say_undo(keep, told):
    keep.undo()
    return "ok"


def say_house(keep, told):
    return str(keep.current_house()).replace("\n", "; ")


def say_hall(keep, told):
    return str(keep.walker())


def say_lots(keep, told):
    return joined([joined(lot, "+") for lot in keep.current_lots()], " ")


def say_pair(keep, told):
    return "bound" if are_bound(keep.current_house(), told[0], told[1]) else "free"


def say_chain(keep, told):
    colours = chain(keep.current_house(), told[0], told[1])
    return "free" if colours is None else joined(colours, " ")


def say_distance(keep, told):
    return str(distance(keep.current_house(), told[0], told[1]))


def say_row(keep, told):
    return joined(shortest_row(keep.current_house(), told[0], told[1]), " ")


def say_address(keep, told):
    house = keep.current_house()
    return joined(addresses(house, lots(house))[keep.walker()], ".")


def say_walk(keep, told):
    return joined(walk(keep.current_house(), keep.walker(), tuple(told)), " ")


def say_repeat(keep, told):
    return str(repeated(keep.current_house(), keep.walker(), tuple(told[1:]), told[0]))


def say_certify(keep, told):
    claim, certificate = certify_pair(keep.current_house(), told[0], told[1])
    return claim[0] if holds(claim, certificate) else "rejected"


# Each of these functions takes the Keep and the numbers and colours of the command, and returns the answer.
ANSWERS = {
    "push": say_push, "open": say_open, "shut": say_shut, "recolour": say_recolour, "drop": say_drop, "undo": say_undo,
    "house": say_house, "hall": say_hall, "lots": say_lots, "pair": say_pair, "chain": say_chain,
    "distance": say_distance, "row": say_row, "address": say_address, "walk": say_walk, "repeat": say_repeat,
    "certify": say_certify,
}


def places_of(form, many):
    """The tuple of what stands in each of so many places of a command of this form, or None if they are not as many."""
    if form[-1:] == ("colours",):
        form = form[:-1] + ("colour",) * max(1, many - len(form) + 1)
    return form if len(form) == many else None


def value_of(word, place):
    """The number or the colour that the word writes, or None."""
    if place == "number":
        return number_of(word)
    return word if is_colour(word) else None


def values_of(words, form):
    """The list of the numbers and colours that these words write, or None if they are not of this form."""
    places = places_of(form, len(words))
    if places is None:
        return None
    values = [value_of(word, place) for word, place in zip(words, places)]
    return None if None in values else values


def told_by(command):
    """The first word of a command and the list of the numbers and colours behind it."""
    if not isinstance(command, str):
        raise InvalidCommand(command)
    words = command.split(" ")
    if words[0] not in FORMS:
        raise InvalidCommand(command)
    told = values_of(words[1:], FORMS[words[0]])
    if told is None:
        raise InvalidCommand(command)
    return words[0], told


class Desk:
    """Keeps a Keep of a House and takes commands."""

    def __init__(self, house):
        self.keep = Keep(house)

    def say(self, command):
        """Carries out the command and returns the answer."""
        word, told = told_by(command)
        answer = ANSWERS[word]
        return answer(self.keep, told)
