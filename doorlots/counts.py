"""Counting the rows of a given length."""

from doorlots.arguments import check_hall, check_house, check_length


def counts_up_to(house, start, goal, length):
    """A list with the number of rows of 0, 1, 2 and so on colours of the house that lead from one hall to the other."""
    many = len(house.colours())
    ending = [1 if hall == start else 0 for hall in range(house.halls)]
    counts = [ending[goal]]
    for step in range(length):
        # The last push came through a door, from its other end, or it stayed.
        ending = [
            ending[hall] * (many - len(ways)) + sum([ending[other] for other in ways.values()])
            for hall, ways in enumerate(house.ways)
        ]
        counts.append(ending[goal])
    return counts


def rows_between(house, start, goal, length):
    """The number of rows of exactly this many colours of the house that lead from one hall to the other."""
    check_house(house)
    check_hall(house, start)
    check_hall(house, goal)
    check_length(length)
    return counts_up_to(house, start, goal, length)[length]
