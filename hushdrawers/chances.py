"""Chances, counted over all rows of coins, which are all equally likely."""

from math import comb

from hushdrawers.counting import coin_rows, lowest, power
from hushdrawers.errors import BadNumber, TooMany
from hushdrawers.houses import (
    LEAST_CELLS, MOST_CELLS, check_drawer, check_house, check_number, check_page, coin_count)
from hushdrawers.lives import check_life, check_story, moment_count
from hushdrawers.runs import check_times, run, seen
from hushdrawers.stores import check_way

MOST_ROWS = 5000
MOST_WAITING = 60
MOST_SEALINGS = 60
MOST_PART = 1000


def check_rows(house, moments):
    """Raise TooMany if so many moments have more rows of coins than can be gone through."""
    if power(coin_count(house), moments) > MOST_ROWS:
        raise TooMany(MOST_ROWS)


def row_count(house, life):
    """How many rows of coins a life has."""
    check_house(house)
    check_life(house, life)
    return power(coin_count(house), moment_count(life))


def check_viewer(house, way, life, drawer, times):
    """Raise the first error of what a view is of, coins left out."""
    check_house(house)
    check_life(house, life)
    check_way(way)
    check_drawer(house, drawer)
    check_times(life, times)


def view_counts(house, way, life, drawer, times):
    """How many rows of coins show each view."""
    counts = {}
    for coins in coin_rows(house, moment_count(life)):
        _, history = run(house, way, life, coins)
        told = seen(history, drawer, times)
        counts[told] = counts.get(told, 0) + 1
    return counts


def view_count(house, way, life, drawer, times):
    """How many unlike views there are."""
    check_viewer(house, way, life, drawer, times)
    check_rows(house, moment_count(life))
    return len(view_counts(house, way, life, drawer, times))


def best_guess(house, way, one, other, drawer, times):
    """The best chance to say which of two lives it was, for somebody who sees the view."""
    check_viewer(house, way, one, drawer, times)
    check_life(house, other)
    if moment_count(one) != moment_count(other):
        raise BadNumber()
    check_rows(house, moment_count(one))
    first = view_counts(house, way, one, drawer, times)
    second = view_counts(house, way, other, drawer, times)
    right = sum(max(many, second.get(told, 0)) for told, many in first.items())
    right += sum(many for told, many in second.items() if told not in first)
    return lowest(right, sum(list(first.values())) + sum(list(second.values())))


def wait_counts(house, way, story, drawer):
    """How many rows of coins leave 0, 1, 2, .. copies of a drawer waiting behind a story."""
    life = ((house[2] - 1, story),)
    counts = []
    for coins in coin_rows(house, len(story)):
        store, _ = run(house, way, life, coins)
        many = len(store.rows[drawer])
        while len(counts) <= many:
            counts.append(0)
        counts[many] += 1
    return tuple(counts)


def check_waits(house, way, story, drawer):
    """Raise the first error of what is counted where copies wait behind a story."""
    check_house(house)
    check_story(house, story)
    check_way(way)
    check_drawer(house, drawer)
    check_rows(house, len(story))


def waiting_counts(house, way, story, drawer):
    """How many rows of coins leave 0, 1, 2, .. copies of a drawer waiting, as a tuple."""
    check_waits(house, way, story, drawer)
    return wait_counts(house, way, story, drawer)


def more_wait(house, way, story, drawer, many):
    """The chance that more than many copies of a drawer wait behind a story."""
    check_waits(house, way, story, drawer)
    check_number(many, 0, MOST_WAITING)
    counts = wait_counts(house, way, story, drawer)
    return lowest(sum(counts[many + 1:]), sum(counts))


def last_content(life, drawer, page):
    """The content that the last deed of a life at a page puts, None if no deed does."""
    found = None
    for _, story in life:
        for moment in story:
            for deed in moment:
                if deed[:2] == (drawer, page):
                    found = deed[2]
    return found


def loss_chance(house, life, drawer, page):
    """The chance that a further session with all keys does not find what was put last."""
    check_house(house)
    check_life(house, life)
    check_drawer(house, drawer)
    check_page(house, page)
    check_rows(house, moment_count(life))
    content = last_content(life, drawer, page)
    rows = coin_rows(house, moment_count(life))
    lost = 0
    for coins in rows:
        store, _ = run(house, "true", life, coins)
        store.begin(house[2] - 1)
        # Where nothing is known the content is None, as it is where no deed puts the page.
        _, found = store.known.get((drawer, page), (0, None))
        if found != content:
            lost += 1
    return lowest(lost, len(rows))


def lives_on(house, copies, moments):
    """The chance that at least one of so many cells is in no set of so many moments."""
    check_house(house)
    check_number(copies, 1, house[0])
    check_number(moments, 0, MOST_SEALINGS)
    cells, sealed = house[0], house[1]
    whole = power(coin_count(house), moments)
    # Added and taken off by turns: the rows that leave all of some cells alone, by how many
    # these are, so that each row that leaves one alone counts once.
    left = 0
    sign = 1
    for many in range(1, copies + 1):
        left += sign * comb(copies, many) * power(comb(cells - many, sealed), moments)
        sign = -sign
    return lowest(left, whole)


def least_cells(house, story, drawer, many, top, bottom):
    """The least number of cells with which more than many wait with a chance that is allowed."""
    check_house(house)
    check_story(house, story)
    check_drawer(house, drawer)
    check_number(many, 0, MOST_WAITING)
    check_number(top, 0, MOST_PART)
    check_number(bottom, 1, MOST_PART)
    for cells in range(max(LEAST_CELLS, house[1]), MOST_CELLS + 1):
        other = (cells,) + house[1:]
        check_rows(other, len(story))
        counts = wait_counts(other, "true", story, drawer)
        if sum(counts[many + 1:]) * bottom <= top * sum(counts):
            return cells
    return None
