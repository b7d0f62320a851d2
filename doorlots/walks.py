"""Walks by rows of colours, and rows that are done many times."""

from doorlots.arguments import check_hall, check_house, check_row, check_times


def halls_on_the_way(house, hall, row):
    """A list of this hall and of the hall after each push."""
    halls = [hall]
    for colour in row:
        hall = house.ways[hall].get(colour, hall)
        halls.append(hall)
    return halls


def goals_of(house, row):
    """A list with, for each hall, the hall to which the row leads from it."""
    return [halls_on_the_way(house, hall, row)[-1] for hall in range(house.halls)]


def cycle_from(goals, hall):
    """A list of the halls to which the row leads from this hall, done 0, 1, 2 and more times, until it is home."""
    # Each push can be undone by the same push. So a row never leads from two halls to one, and it comes home.
    halls = [hall]
    while goals[halls[-1]] != hall:
        halls.append(goals[halls[-1]])
    return halls


def common_divisor(one, other):
    """The greatest number that divides both."""
    while other > 0:
        one, other = other, one % other
    return one


def common_multiple(one, other):
    """The least number that both divide."""
    return one // common_divisor(one, other) * other


def hall_after(house, hall, row, times):
    """The hall to which the row leads from this hall if it is done so many times."""
    cycle = cycle_from(goals_of(house, row), hall)
    return cycle[times % len(cycle)]


def times_until_home(house, row):
    """The least number from 1 on such that the row done so many times leads home from every hall."""
    goals = goals_of(house, row)
    times = 1
    for hall in range(house.halls):
        times = common_multiple(times, len(cycle_from(goals, hall)))
    return times


def walk(house, hall, row):
    """The tuple of the halls in which a walker stands who starts in this hall."""
    check_house(house)
    check_hall(house, hall)
    check_row(row)
    return tuple(halls_on_the_way(house, hall, row))


def effect(house, row):
    """A tuple with, for each hall, the hall to which the row leads from it."""
    check_house(house)
    check_row(row)
    return tuple(goals_of(house, row))


def repeated(house, hall, row, times):
    """The hall to which the row leads from this hall if it is done so many times."""
    check_house(house)
    check_hall(house, hall)
    check_row(row)
    check_times(times)
    return hall_after(house, hall, row, times)


def period(house, row):
    """The least number from 1 on such that the row done so many times leads home from every hall."""
    check_house(house)
    check_row(row)
    return times_until_home(house, row)
