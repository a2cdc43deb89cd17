"""Houses, their drawers and pages, and the sets of cells that coins draw."""

from math import comb

from hushdrawers.errors import BadDrawer, BadHouse, BadNumber, BadPage

LEAST_CELLS = 2
MOST_CELLS = 12


def is_number(value, least, most):
    """Whether a value is an integer from least to most."""
    # A bool is an int to Python, but no integer to a house.
    return isinstance(value, int) and not isinstance(value, bool) and least <= value <= most


def check_number(value, least, most):
    """Raise BadNumber for any value but the integers from least to most."""
    if not is_number(value, least, most):
        raise BadNumber()


def wrong_word(value):
    """What is wrong first with a value that is no house, None if it is one."""
    if not isinstance(value, tuple) or len(value) != 5:
        return "form"
    cells, sealed, drawers, pages, copies = value
    if not is_number(cells, LEAST_CELLS, MOST_CELLS):
        return "cells"
    if not is_number(sealed, 1, cells):
        return "sealed"
    if not is_number(drawers, 1, 4):
        return "drawers"
    if not is_number(pages, 1, 6):
        return "pages"
    if not is_number(copies, 1, 3):
        return "copies"
    return None


def is_house(value):
    """Whether any value is a house."""
    return wrong_word(value) is None


def check_house(house):
    """Raise BadHouse for a value that is no house."""
    word = wrong_word(house)
    if word is not None:
        raise BadHouse(word)


def is_drawer(house, value):
    """Whether any value is a drawer of a house."""
    return is_number(value, 0, house[2] - 1)


def check_drawer(house, drawer):
    """Raise BadDrawer for a value that is no drawer."""
    if not is_drawer(house, drawer):
        raise BadDrawer()


def is_page(house, value):
    """Whether any value is a page of a house."""
    return is_number(value, 0, house[3] - 1)


def check_page(house, page):
    """Raise BadPage for a value that is no page."""
    if not is_page(house, page):
        raise BadPage()


def coin_count(house):
    """The number of the coins of a moment."""
    check_house(house)
    return comb(house[0], house[1])


def is_coin(house, value):
    """Whether any value is a coin of a house."""
    return is_number(value, 0, comb(house[0], house[1]) - 1)


def drawn(house, coin):
    """The set of cells that a coin draws, ascending."""
    check_house(house)
    if not is_coin(house, coin):
        raise BadNumber()
    cells, sealed = house[0], house[1]
    chosen = []
    ahead = coin
    cell = 0
    while len(chosen) < sealed:
        # The sets that go on with this cell stand ahead of those that go on with a greater one.
        many = comb(cells - cell - 1, sealed - len(chosen) - 1)
        if ahead < many:
            chosen.append(cell)
        else:
            ahead -= many
        cell += 1
    return tuple(chosen)


def is_cell_set(house, value):
    """Whether any value is an ascending tuple of as many cells as are sealed."""
    if not isinstance(value, tuple) or len(value) != house[1]:
        return False
    least = 0
    for cell in value:
        if not is_number(cell, least, house[0] - 1):
            return False
        least = cell + 1
    return True


def coin_of(house, cells):
    """The coin that draws a set of cells."""
    check_house(house)
    if not is_cell_set(house, cells):
        raise BadNumber()
    coin = 0
    least = 0
    for at, cell in enumerate(cells):
        for lesser in range(least, cell):
            coin += comb(house[0] - lesser - 1, house[1] - at - 1)
        least = cell + 1
    return coin
