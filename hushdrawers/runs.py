"""What is read behind a life, and what is seen of the cells while it goes on."""

from hushdrawers.errors import BadDrawer, BadTimes
from hushdrawers.houses import check_drawer, check_house, check_page, drawn, is_number
from hushdrawers.lives import check_coins, check_life, moment_count
from hushdrawers.stores import Store, check_way


def check_run(house, way, life, coins):
    """Raise the first error of what a run is of; a wrong way is told behind a wrong life."""
    check_house(house)
    check_life(house, life)
    check_way(way)
    check_coins(house, life, coins)


def check_key(house, life, drawer):
    """Raise BadDrawer for any value but a drawer whose key is at work in the last session."""
    check_drawer(house, drawer)
    if drawer > life[-1][0]:
        raise BadDrawer()


def run(house, way, life, coins):
    """The store behind a life, and its history.

    The history has an item for each time, from 0 to the number of moments: the tuple of what is
    in the cells then, and the tuple of the cells that the moment before it sealed anew.
    """
    store = Store(house, way)
    history = [(tuple(store.cells), ())]
    for deepest, story in life:
        store.begin(deepest)
        for moment in story:
            for drawer, page, content in moment:
                store.put(drawer, page, content)
            coin = coins[len(history) - 1]
            sealed = store.seal(drawn(house, coin))
            history.append((tuple(store.cells), sealed))
    return store, history


def read(house, way, life, coins, drawer, page):
    """The newest known (version, content) of a page at the end of the last session, or None."""
    check_run(house, way, life, coins)
    check_key(house, life, drawer)
    check_page(house, page)
    store, _ = run(house, way, life, coins)
    return store.known.get((drawer, page))


def waiting(house, way, life, coins, drawer):
    """The pages whose copies wait at the end of the last session, as they stand in the row."""
    check_run(house, way, life, coins)
    check_key(house, life, drawer)
    store, _ = run(house, way, life, coins)
    return tuple(store.rows[drawer])


def places(house, way, life, coins, drawer):
    """The ascending tuple of (page, cell) of a drawer's live copies at the end."""
    check_run(house, way, life, coins)
    check_key(house, life, drawer)
    store, _ = run(house, way, life, coins)
    found = []
    for cell, held in enumerate(store.cells):
        if store.is_live(cell) and held[0] == drawer:
            found.append((held[1], cell))
    return tuple(sorted(found))


def found_later(house, way, life, coins, drawer, page):
    """The (version, content) of a page that a further session with all keys knows, or None."""
    check_run(house, way, life, coins)
    check_drawer(house, drawer)
    check_page(house, page)
    store, _ = run(house, way, life, coins)
    store.begin(house[2] - 1)
    return store.known.get((drawer, page))


def check_times(life, times):
    """Raise BadTimes for a value that is no ascending tuple of times of a life."""
    if not isinstance(times, tuple) or not times:
        raise BadTimes()
    least = 0
    for at in times:
        if not is_number(at, least, moment_count(life)):
            raise BadTimes()
        least = at + 1


def opened(cells, drawer):
    """What somebody with the keys from 0 to a drawer sees in some cells, cell by cell."""
    return tuple(held if held is not None and held[0] <= drawer else None for held in cells)


def seen(history, drawer, times):
    """What the keys from 0 to a drawer show of a history at some times."""
    shown = []
    before = times[0]
    for at in times:
        since = [cell for state in history[before + 1:at + 1] for cell in state[1]]
        shown.append((opened(history[at][0], drawer), tuple(sorted(set(since)))))
        before = at
    return tuple(shown)


def view(house, way, life, coins, drawer, times):
    """What somebody sees who has the keys from 0 to a drawer and looks at some times."""
    check_run(house, way, life, coins)
    check_drawer(house, drawer)
    check_times(life, times)
    _, history = run(house, way, life, coins)
    return seen(history, drawer, times)


def looks(house, way, life, coins, drawer):
    """What somebody sees who has the keys from 0 to a drawer and looks at all times."""
    check_run(house, way, life, coins)
    check_drawer(house, drawer)
    _, history = run(house, way, life, coins)
    return seen(history, drawer, tuple(range(len(history))))
