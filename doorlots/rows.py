"""Rows of colours, and what can be obtained from them by exchanging neighbouring pushes of free colours.

Colours are bound if they are in the same lot. So by exchanges the pushes of each lot keep their order, and they can be
mixed with the pushes of the other lots in every way.
"""

from doorlots.arguments import check_any_colours, check_house, check_row, check_row_of
from doorlots.lots import lots


def pushes_of(row, colours):
    """The row without the pushes of other colours."""
    return tuple([colour for colour in row if colour in colours])


def pushes_by_lots(house, row):
    """A list with, for each lot of the finest split, the pushes of its colours."""
    return [pushes_of(row, lot) for lot in lots(house)]


def projection(row, colours):
    """The row without the pushes of colours that are not among these."""
    check_row(row)
    check_any_colours(colours)
    return pushes_of(row, colours)


def least_row(house, row):
    """The least row that can be obtained from the row by exchanges."""
    check_house(house)
    check_row_of(house, row)
    waiting = pushes_by_lots(house, row)
    least = []
    for push in row:
        colour = min([pushes[0] for pushes in waiting if pushes])
        least.append(colour)
        waiting = [pushes[1:] if pushes[:1] == (colour,) else pushes for pushes in waiting]
    return tuple(least)


def exchange_count(house, row):
    """The number of rows that can be obtained from the row by exchanges."""
    check_house(house)
    check_row_of(house, row)
    count = 1
    placed = 0
    for pushes in pushes_by_lots(house, row):
        # The places of this lot's pushes are chosen among those of the pushes so far and its own.
        for number in range(1, len(pushes) + 1):
            placed += 1
            count = count * placed // number
    return count


def are_exchangeable(house, row, other_row):
    """Whether the other row can be obtained from the row by exchanges."""
    check_house(house)
    check_row_of(house, row)
    check_row_of(house, other_row)
    return pushes_by_lots(house, row) == pushes_by_lots(house, other_row)
