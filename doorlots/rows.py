"""Rows of colours, and what can be obtained from them by exchanging neighbouring pushes of free colours.

Colours are bound if they are in the same lot. So by exchanges the pushes of each lot keep their order, and they can be
mixed with the pushes of the other lots in every way.
"""

from doorlots.arguments import check_any_colours, check_house, check_row, check_row_of
from doorlots.lots import lots


def pushes_of(row, colours):
    """The row without the pushes of other colours."""
    return tuple([colour for colour in row if colour in colours])


def pushes_by_lots(house, row):
    """A list with, for each lot of the finest split, the pushes of its colours."""
    return [pushes_of(row, lot) for lot in lots(house)]


def least_mix(rows):
    """The least row that has the pushes of all these rows, of each row in its order.

    No two of the rows have a colour in common.
    """
    waiting = [row for row in rows if row]
    mixed = []
    while waiting:
        colour = min([row[0] for row in waiting])
        mixed.append(colour)
        following = [row[1:] if row[0] == colour else row for row in waiting]
        waiting = [row for row in following if row]
    return tuple(mixed)


def mix_count(lengths):
    """The number of ways to mix rows of these lengths, each of which keeps its order."""
    count = 1
    placed = 0
    for length in lengths:
        # The places of this row's pushes are chosen among those of the pushes so far and its own.
        for number in range(1, length + 1):
            placed += 1
            count = count * placed // number
    return count


def projection(row, colours):
    """The row without the pushes of colours that are not among these."""
    check_row(row)
    check_any_colours(colours)
    return pushes_of(row, colours)


def least_row(house, row):
    """The least row that can be obtained from the row by exchanges."""
    check_house(house)
    check_row_of(house, row)
    return least_mix(pushes_by_lots(house, row))


def exchange_count(house, row):
    """The number of rows that can be obtained from the row by exchanges."""
    check_house(house)
    check_row_of(house, row)
    return mix_count([len(pushes) for pushes in pushes_by_lots(house, row)])


def are_exchangeable(house, row, other_row):
    """Whether the other row can be obtained from the row by exchanges."""
    check_house(house)
    check_row_of(house, row)
    check_row_of(house, other_row)
    return pushes_by_lots(house, row) == pushes_by_lots(house, other_row)
