"""Keeps: a house that changes by deeds, with a walker in it."""

from doorlots.arguments import check_house, is_lot
from doorlots.errors import InvalidDeed, NothingToUndo, SharedColour, UnknownLot
from doorlots.houses import House
from doorlots.lots import lots
from doorlots.splits import addresses, cross, part

# The number of elements of a deed that begins with this word.
DEED_SIZES = {"push": 2, "open": 4, "shut": 4, "recolour": 3, "cross": 3, "drop": 2}


def after_push(house, hall, deed):
    return house, house.through(hall, deed[1])


def after_open(house, hall, deed):
    return house.opened(deed[1:]), hall


def after_shut(house, hall, deed):
    return house.shut(deed[1:]), hall


def after_recolour(house, hall, deed):
    return house.recoloured(deed[1], deed[2]), hall


def after_cross(house, hall, deed):
    second = House(deed[1], deed[2])
    colours = second.colours()
    shared = [colour for colour in house.colours() if colour in colours]
    if shared:
        raise SharedColour(shared[0])
    return cross((house, second)), hall * second.halls


def after_drop(house, hall, deed):
    lot = deed[1]
    split = lots(house)
    if not is_lot(lot, house.colours()) or lot not in split:
        raise UnknownLot(lot)
    place = split.index(lot)
    table = addresses(house, split)
    # The part has the halls that have the component 0 in the dropped lot.
    address = table[hall][:place] + (0,) + table[hall][place + 1:]
    smaller, halls = part(house, tuple([colour for colour in house.colours() if colour not in lot]))
    return smaller, halls.index(table.index(address))


# Each of these functions takes the house, the walker's hall and the deed, and returns the house and the hall after it.
DEEDS = {
    "push": after_push, "open": after_open, "shut": after_shut, "recolour": after_recolour, "cross": after_cross,
    "drop": after_drop,
}


def is_deed(value):
    """Whether the value is a deed by its word and its number of elements."""
    if not isinstance(value, tuple) or len(value) == 0:
        return False
    word = value[0]
    return isinstance(word, str) and word in DEED_SIZES and len(value) == DEED_SIZES[word]


def check_deeds(deeds):
    if not isinstance(deeds, tuple):
        raise InvalidDeed(None)
    for position, deed in enumerate(deeds):
        if not is_deed(deed):
            raise InvalidDeed(position)


def bound_pairs(split):
    """A dict with the pairs of colours that are in the same lot, the lesser colour first, as its keys."""
    return {(one, other): True for lot in split for at, one in enumerate(lot) for other in lot[at + 1:]}


def pairs_only_in(pairs, other_pairs, colours):
    """The ascending tuple of the pairs of these colours that are among the pairs, but not among the other ones."""
    found = [pair for pair in pairs if pair not in other_pairs and pair[0] in colours and pair[1] in colours]
    return tuple(sorted(found))


class Keep:
    """A House, a walker in one of its halls, and a log of the deeds that were done."""

    def __init__(self, house):
        check_house(house)
        self.house = house
        self.hall = 0
        # For each deed of the log the deed, and the house and the walker's hall before it.
        self.past = []
        self.busy = False

    def __eq__(self, other):
        return isinstance(other, Keep) and self.house == other.house and self.hall == other.hall

    def __len__(self):
        return len(self.past)

    def __repr__(self):
        return f"Keep({self.house.halls} halls, walker in {self.hall})"

    def do(self, deed):
        """Does the deed and appends it to the log."""
        check_deeds((deed,))
        self.carry_out(deed)

    def carry_out(self, deed):
        """Does a deed whose word and number of elements are right."""
        action = DEEDS[deed[0]]
        house, hall = action(self.house, self.hall, deed)
        self.past.append((deed, self.house, self.hall))
        self.house = house
        self.hall = hall

    def do_all(self, deeds, *, watch=None):
        """Does all deeds of a tuple in order, or none of them if one of them or the watch function fails."""
        check_deeds(deeds)
        house, hall, past = self.house, self.hall, self.past
        failed = True
        self.busy = True
        try:
            self.past = list(past)
            for position, deed in enumerate(deeds):
                self.carry_out(deed)
                if watch is not None:
                    watch(self, position)
            failed = None
        finally:
            self.busy = False
            if failed is not None:
                self.house, self.hall, self.past = house, hall, past

    def undo(self):
        """Takes back the last deed of the log."""
        if len(self.past) == 0:
            raise NothingToUndo()
        deed, house, hall = self.past.pop()
        self.house = house
        self.hall = hall

    def current_house(self):
        """The House."""
        return self.house

    def walker(self):
        """The walker's hall."""
        return self.hall

    def current_lots(self):
        """The finest split of the house."""
        return lots(self.house)

    def deed_log(self):
        """The tuple of the deeds that were done and not undone."""
        return tuple([deed for deed, house, hall in self.past])

    def lot_changes(self):
        """The pairs of colours of both houses that the last deed of the log bound, and those that it freed."""
        if len(self.past) == 0:
            return (), ()
        deed, before, hall = self.past[-1]
        now, then = bound_pairs(lots(self.house)), bound_pairs(lots(before))
        known = before.colours()
        colours = [colour for colour in self.house.colours() if colour in known]
        return pairs_only_in(now, then, colours), pairs_only_in(then, now, colours)


def replay(house, deeds):
    """A Keep of this House to which the deeds of the tuple were done."""
    keep = Keep(house)
    keep.do_all(deeds)
    return keep
