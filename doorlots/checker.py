"""The checker: whether a certificate shows a claim.

It takes values of any kind and shares no code with the rest of the program. A house is kept here as its ways: a list
with, for each hall, a dict from the colours of its doors to the halls at their other ends.
"""

from doorlots.bounds import MOST_COLOURS, MOST_HALLS, MOST_ROW, MOST_TIMES

ALPHABET = "abcdefghijklmnopqrstuvwxyz"
LONGEST_NAME = 6


def is_integer(value):
    return isinstance(value, int) and not isinstance(value, bool)


def is_number_below(value, limit):
    """Whether the value is an integer from 0 on that is less than the limit."""
    return is_integer(value) and 0 <= value < limit


def is_tuple_of(value, many):
    """Whether the value is a tuple of so many elements."""
    return isinstance(value, tuple) and len(value) == many


def is_name(value):
    """Whether the value is a colour."""
    if not isinstance(value, str) or not 1 <= len(value) <= LONGEST_NAME:
        return False
    return all([letter in ALPHABET for letter in value])


def is_row(value):
    return isinstance(value, tuple) and len(value) <= MOST_ROW and all([is_name(name) for name in value])


def is_ascending(values):
    """Whether each element is greater than the one before it; all of them can be compared."""
    return all([low < high for low, high in zip(values, values[1:])])


def could_be_door(value, halls):
    """Whether the value is a door between two of so many halls."""
    if not is_tuple_of(value, 3) or not is_number_below(value[0], halls) or not is_number_below(value[1], halls):
        return False
    return value[0] < value[1] and is_name(value[2])


def could_be_doors(value, halls):
    """Whether the value is an ascending tuple of doors between so many halls."""
    if not isinstance(value, tuple) or not all([could_be_door(door, halls) for door in value]):
        return False
    return is_ascending(value)


def joined_ways(halls, doors):
    """The ways of these doors, or None if a hall has two doors of the same colour."""
    ways = [{} for hall in range(halls)]
    for low, high, name in doors:
        if name in ways[low] or name in ways[high]:
            return None
        ways[low][name] = high
        ways[high][name] = low
    return ways


def palette(ways):
    """The ascending list of the colours of a house."""
    return sorted({name for here in ways for name in here})


def steps_by(ways, names, start):
    """A dict from the halls that can be reached by these colours to the numbers of steps to them, the nearest first."""
    steps = {start: 0}
    reached = [start]
    while reached:
        further = []
        for hall in reached:
            for name, goal in ways[hall].items():
                if name in names and goal not in steps:
                    steps[goal] = steps[hall] + 1
                    further.append(goal)
        reached = further
    return steps


def read_ways(halls, doors):
    """The ways of the house with these halls and doors, or None if there is no such house."""
    if not is_number_below(halls, MOST_HALLS + 1) or halls == 0 or not could_be_doors(doors, halls):
        return None
    ways = joined_ways(halls, doors)
    if ways is None:
        return None
    names = palette(ways)
    if len(names) > MOST_COLOURS or len(steps_by(ways, names, 0)) < halls:
        return None
    return ways


def is_one_of(value, names):
    """Whether the value, of any kind, is one of these colours."""
    return is_name(value) and value in names


def are_two_of(one, other, names):
    return is_one_of(one, names) and is_one_of(other, names) and one != other


def end_of(ways, hall, row):
    """The hall to which the row leads."""
    for name in row:
        hall = ways[hall].get(name, hall)
    return hall


def is_grouping(value, names):
    """Whether the value is an ascending tuple of lots with each of these colours exactly once."""
    if not isinstance(value, tuple) or not all([isinstance(lot, tuple) and len(lot) > 0 for lot in value]):
        return False
    listed = [name for lot in value for name in lot]
    if not all([is_name(name) for name in listed]) or sorted(listed) != names:
        return False
    return is_ascending(value) and all([is_ascending(lot) for lot in value])


def part_ways(ways, lot):
    """The ways of the part by the colours of a lot."""
    halls = sorted(steps_by(ways, lot, 0))
    numbers = {hall: number for number, hall in enumerate(halls)}
    return [{name: numbers[goal] for name, goal in ways[hall].items() if name in lot} for hall in halls]


def is_place(value, parts):
    """Whether the value is a tuple with one hall of each part."""
    if not is_tuple_of(value, len(parts)):
        return False
    return all([is_number_below(component, len(ways)) for component, ways in zip(value, parts)])


def moves_as_parts(ways, grouping, parts, table):
    """Whether each push leads to the hall whose address has the pushed component of the colour's lot."""
    for hall, address in enumerate(table):
        for place, lot in enumerate(grouping):
            for name in lot:
                component = end_of(parts[place], address[place], (name,))
                pushed = address[:place] + (component,) + address[place + 1:]
                if table[end_of(ways, hall, (name,))] != pushed:
                    return False
    return True


def is_table(ways, grouping, table):
    """Whether the grouping is a split of the house and this is its table of addresses."""
    if not is_grouping(grouping, palette(ways)):
        return False
    parts = [part_ways(ways, lot) for lot in grouping]
    tuples = 1
    for smaller in parts:
        tuples *= len(smaller)
    if tuples != len(ways) or not is_tuple_of(table, tuples):
        return False
    if not all([is_place(address, parts) for address in table]) or len(set(table)) < tuples:
        return False
    return table[0] == (0,) * len(parts) and moves_as_parts(ways, grouping, parts, table)


def turns_corner(ways, hall, first, second):
    """Whether the pair of these colours, in this order, has a corner link at the hall."""
    if first not in ways[hall]:
        return False
    there = ways[hall][first]
    doors = [second in ways[place] for place in (hall, there)]
    if not all(doors):
        return any(doors)
    return end_of(ways, hall, (first, second)) != end_of(ways, hall, (second, first))


def corner_colours(ways, link):
    """The two colours that a corner link joins, or None if it is not one."""
    word, one, other, hall = link
    if not are_two_of(one, other, palette(ways)) or not is_number_below(hall, len(ways)):
        return None
    if turns_corner(ways, hall, one, other) or turns_corner(ways, hall, other, one):
        return one, other
    return None


def has_door(ways, value):
    """Whether the value is a door of the house."""
    return could_be_door(value, len(ways)) and ways[value[0]].get(value[2]) == value[1]


def stretch_colours(ways, link):
    """The two colours that a stretch link joins, or None if it is not one."""
    word, door, other_door = link
    if not has_door(ways, door) or not has_door(ways, other_door) or door[2] == other_door[2]:
        return None
    names = palette(ways)
    from_low, from_high = steps_by(ways, names, door[0]), steps_by(ways, names, door[1])
    low, high, name = other_door
    if from_low[low] + from_high[high] == from_low[high] + from_high[low]:
        return None
    return door[2], name


def linked_colours(ways, value):
    """The two colours that a link joins, in its order, or None if the value is not a link of the house."""
    if not isinstance(value, tuple) or len(value) == 0 or not isinstance(value[0], str):
        return None
    if value[0] == "corner" and len(value) == 4:
        return corner_colours(ways, value)
    if value[0] == "stretch" and len(value) == 3:
        return stretch_colours(ways, value)
    return None


def shows_split(ways, told, certificate):
    return is_table(ways, told[0], certificate)


def shows_free(ways, told, certificate):
    if not is_tuple_of(certificate, 2) or not is_table(ways, certificate[0], certificate[1]):
        return False
    if not are_two_of(told[0], told[1], palette(ways)):
        return False
    return not any([told[0] in lot and told[1] in lot for lot in certificate[0]])


def shows_bound(ways, told, certificate):
    if not are_two_of(told[0], told[1], palette(ways)) or not isinstance(certificate, tuple) or len(certificate) == 0:
        return False
    last = told[0]
    for link in certificate:
        pair = linked_colours(ways, link)
        if pair is None or pair[0] != last:
            return False
        last = pair[1]
    return last == told[1]


def chained_by(pairs, first):
    """A dict with the colours to which a chain of these pairs leads from the first one, in either direction."""
    chained = {first: True}
    # As long as one is missing, each round adds one.
    for turn in range(MOST_COLOURS):
        for one, other in pairs:
            if one in chained or other in chained:
                chained[one] = True
                chained[other] = True
    return chained


def shows_finest(ways, told, certificate):
    grouping = told[0]
    if not is_tuple_of(certificate, 2) or not is_table(ways, grouping, certificate[0]):
        return False
    if not isinstance(certificate[1], tuple):
        return False
    pairs = [linked_colours(ways, link) for link in certificate[1]]
    if None in pairs:
        return False
    # No link joins two lots, so what is chained to the first colour of a lot is in the lot.
    if not all([any([one in lot and other in lot for lot in grouping]) for one, other in pairs]):
        return False
    return all([len(chained_by(pairs, lot[0])) == len(lot) for lot in grouping])


def shows_alike(ways, told, certificate):
    halls = len(ways)
    other_ways = read_ways(told[0], told[1])
    if other_ways is None or len(other_ways) != halls or not is_number_below(told[2], halls):
        return False
    if not is_tuple_of(certificate, halls) or not all([is_number_below(hall, halls) for hall in certificate]):
        return False
    if len(set(certificate)) < halls or certificate[0] != told[2]:
        return False
    # All halls of both houses are paired, so it is enough to compare the doors of each pair.
    taken = [{name: certificate[goal] for name, goal in here.items()} for here in ways]
    return taken == [other_ways[hall] for hall in certificate]


def shows_unlike(ways, told, certificate):
    other_ways = read_ways(told[0], told[1])
    if other_ways is None or not is_tuple_of(certificate, len(other_ways)):
        return False
    if not all([is_row(row) for row in certificate]):
        return False
    return all([
        (end_of(ways, 0, row) == 0) != (end_of(other_ways, hall, row) == hall) for hall, row in enumerate(certificate)
    ])


def shows_distance(ways, told, certificate):
    start, goal, many = told
    halls = len(ways)
    if not is_number_below(start, halls) or not is_number_below(goal, halls) or not is_integer(many):
        return False
    if not is_tuple_of(certificate, 2) or not is_row(certificate[0]) or not is_tuple_of(certificate[1], halls):
        return False
    row, heights = certificate
    if len(row) != many or end_of(ways, start, row) != goal or not all([is_integer(height) for height in heights]):
        return False
    if heights[start] != 0 or heights[goal] != many:
        return False
    return all([abs(heights[hall] - heights[end]) <= 1 for hall in range(halls) for end in ways[hall].values()])


def shows_repeat(ways, told, certificate):
    start, row, times, goal = told
    halls = len(ways)
    if not is_number_below(start, halls) or not is_row(row) or not is_number_below(times, MOST_TIMES + 1):
        return False
    if not is_number_below(goal, halls) or not isinstance(certificate, tuple) or len(certificate) == 0:
        return False
    if not all([is_number_below(hall, halls) for hall in certificate]) or len(set(certificate)) < len(certificate):
        return False
    following = certificate[1:] + (start,)
    if certificate[0] != start:
        return False
    if not all([end_of(ways, hall, row) == end for hall, end in zip(certificate, following)]):
        return False
    return certificate[times % len(certificate)] == goal


# For each word of a claim the number of its elements, and the function that looks at the certificate. The function is
# given the ways of the claim's house, the elements of the claim behind the house, and the certificate.
CLAIM_SIZES = {"split": 4, "free": 5, "bound": 5, "finest": 4, "alike": 6, "unlike": 5, "distance": 6, "repeat": 7}
CLAIMS = {
    "split": shows_split, "free": shows_free, "bound": shows_bound, "finest": shows_finest, "alike": shows_alike,
    "unlike": shows_unlike, "distance": shows_distance, "repeat": shows_repeat,
}


def holds(claim, certificate):
    """Whether the certificate shows the claim."""
    if not isinstance(claim, tuple) or len(claim) == 0 or not isinstance(claim[0], str):
        return False
    word = claim[0]
    if word not in CLAIM_SIZES or len(claim) != CLAIM_SIZES[word]:
        return False
    ways = read_ways(claim[1], claim[2])
    if ways is None:
        return False
    shows = CLAIMS[word]
    return shows(ways, claim[3:], certificate)
