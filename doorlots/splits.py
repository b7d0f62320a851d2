"""Parts of houses, splits with their addresses, and crosses."""

from doorlots.arguments import check_colours, check_grouping, check_house
from doorlots.bounds import MOST_COLOURS, MOST_HALLS
from doorlots.distances import steps_from
from doorlots.errors import InvalidAddress, InvalidParts, NotASplit, TooManyColours, TooManyHalls
from doorlots.houses import House, is_hall
from doorlots.lots import lots


def part(house, colours):
    """The part of the house by these colours as a House, and the ascending tuple of the halls that it has."""
    check_house(house)
    check_colours(house, colours)
    goals = [[goal for colour, goal in ways.items() if colour in colours] for ways in house.ways]
    halls = tuple(sorted(steps_from(goals, 0)))
    numbers = {hall: number for number, hall in enumerate(halls)}
    doors = [
        (numbers[low], numbers[high], colour) for low, high, colour in house.doors
        if colour in colours and low in numbers
    ]
    return House(len(halls), tuple(doors)), halls


def parts_by(house, grouping):
    """The tuple of the parts, as Houses, by the lots of a grouping."""
    return tuple([part(house, lot)[0] for lot in grouping])


def unsplittable_parts(house):
    """The tuple of the parts, as Houses, by the lots of the finest split."""
    return parts_by(house, lots(house))


def moved_address(address, parts, place, colour):
    """The address to which the colour leads if it moves the component at this place."""
    component = parts[place].through(address[place], colour)
    return address[:place] + (component,) + address[place + 1:]


def led_addresses(house, parts, places):
    """A dict that gives each hall the address to which the colours on a way from hall 0 lead from the zeros."""
    table = {0: (0,) * len(parts)}
    waiting = [0]
    while waiting:
        hall = waiting.pop()
        for colour, goal in house.ways[hall].items():
            if goal not in table:
                table[goal] = moved_address(table[hall], parts, places[colour], colour)
                waiting.append(goal)
    return table


def table_of(house, grouping):
    """The table of addresses of the grouping, or None if it is not a split."""
    parts = parts_by(house, grouping)
    if halls_of_cross(parts) != house.halls:
        return None
    places = {colour: place for place, lot in enumerate(grouping) for colour in lot}
    # If there is a table, it is this one: a door moves one component, as in the part. So it is enough to check it.
    # If it passes, every tuple is an address, since pushes lead to all tuples; and there are no more halls than tuples.
    table = led_addresses(house, parts, places)
    for hall in table:
        for colour in places:
            goal = house.ways[hall].get(colour, hall)
            if table[goal] != moved_address(table[hall], parts, places[colour], colour):
                return None
    return tuple([table[hall] for hall in range(house.halls)])


def is_split(house, grouping):
    """Whether the grouping is a split of the house."""
    check_house(house)
    check_grouping(house, grouping)
    return table_of(house, grouping) is not None


def split_count(house):
    """The number of groupings of the house that are splits."""
    # The splits are the ways to put the lots of the finest split together. The row begins with the number of ways for
    # as many lots as there were steps (Bell's triangle).
    row = [1]
    for lot in lots(house):
        following = [row[-1]]
        for number in row:
            following.append(following[-1] + number)
        row = following
    return row[0]


def addresses(house, grouping):
    """The table of addresses of a split: a tuple with, for each hall, its address."""
    check_house(house)
    check_grouping(house, grouping)
    table = table_of(house, grouping)
    if table is None:
        raise NotASplit(grouping)
    return table


def is_address(value, parts):
    """Whether the value is a tuple with one hall of each part."""
    if not isinstance(value, tuple) or len(value) != len(parts):
        return False
    return all([is_hall(component, house.halls) for component, house in zip(value, parts)])


def hall_at(house, grouping, address):
    """The hall with this address in the table of a split."""
    table = addresses(house, grouping)
    if not is_address(address, parts_by(house, grouping)):
        raise InvalidAddress(address)
    return table.index(address)


def check_parts(houses, least_halls):
    """The check of a tuple of Houses of at least so many halls, of which no two have a colour in common."""
    if not isinstance(houses, tuple):
        raise InvalidParts(None)
    taken = {}
    for position, house in enumerate(houses):
        if not isinstance(house, House) or house.halls < least_halls:
            raise InvalidParts(position)
        if any([colour in taken for colour in house.colours()]):
            raise InvalidParts(position)
        for colour in house.colours():
            taken[colour] = True


def halls_of_cross(houses):
    """The number of halls of the cross."""
    halls = 1
    for house in houses:
        halls *= house.halls
    return halls


def crossed_doors(house, halls, step):
    """The doors of this house in a cross of so many halls, where its next hall is so many numbers further on."""
    doors = []
    for hall in range(halls):
        for low, high, colour in house.doors:
            if hall // step % house.halls == low:
                doors.append((hall, hall + (high - low) * step, colour))
    return doors


def cross(houses):
    """The cross of a tuple of Houses as a House."""
    check_parts(houses, 1)
    halls = halls_of_cross(houses)
    if halls > MOST_HALLS:
        raise TooManyHalls(halls)
    colours = sum([len(house.colours()) for house in houses])
    if colours > MOST_COLOURS:
        raise TooManyColours(colours)
    doors = []
    step = halls
    for house in houses:
        step //= house.halls
        doors.extend(crossed_doors(house, halls, step))
    return House(halls, tuple(sorted(doors)))
