"""Distances between halls, and the shortest rows."""

from doorlots.arguments import check_hall, check_house


def steps_from(goals, start):
    """A dict from each place that can be reached to the least number of steps to it.

    `goals` gives for each place the places that are one step away; `start` is a place.
    """
    steps = {start: 0}
    layer = [start]
    while layer:
        further = []
        for place in layer:
            for goal in goals[place]:
                if goal not in steps:
                    steps[goal] = steps[place] + 1
                    further.append(goal)
        layer = further
    return steps


def distances_from(house, start):
    """A list with the distance of each hall from this hall."""
    steps = steps_from([list(ways.values()) for ways in house.ways], start)
    return [steps[hall] for hall in range(house.halls)]


def least_way(house, start, goal):
    """The least of the shortest rows that lead from one hall to the other."""
    left = distances_from(house, goal)
    row = []
    hall = start
    while hall != goal:
        # The doors at a hall are in the order of their colours.
        nearer = [step for step in house.doors_at(hall) if left[step[1]] < left[hall]]
        colour, hall = nearer[0]
        row.append(colour)
    return tuple(row)


def way_count(house, start, goal):
    """The number of shortest rows that lead from one hall to the other."""
    far = distances_from(house, start)
    counts = {start: 1}
    nearest_first = sorted(range(house.halls), key=lambda place: far[place])
    for hall in nearest_first[1:]:
        before = [other for other in house.ways[hall].values() if far[other] < far[hall]]
        counts[hall] = sum([counts[other] for other in before])
    return counts[goal]


def sphere_sizes(house, start):
    """A list with the number of halls at distance 0, 1, 2 and so on from this hall."""
    far = distances_from(house, start)
    return [far.count(many) for many in range(max(far) + 1)]


def check_two_halls(house, start, goal):
    check_house(house)
    check_hall(house, start)
    check_hall(house, goal)


def distance(house, start, goal):
    """The distance between the two halls."""
    check_two_halls(house, start, goal)
    return distances_from(house, start)[goal]


def shortest_row(house, start, goal):
    """The least of the shortest rows that lead from one hall to the other."""
    check_two_halls(house, start, goal)
    return least_way(house, start, goal)


def shortest_count(house, start, goal):
    """The number of shortest rows that lead from one hall to the other."""
    check_two_halls(house, start, goal)
    return way_count(house, start, goal)


def spheres(house, start):
    """A tuple with the number of halls at distance 0, 1, 2 and so on from this hall."""
    check_house(house)
    check_hall(house, start)
    return tuple(sphere_sizes(house, start))
