"""How the ways of a store give themselves away, and which of them do not."""

from hushdrawers.counting import coin_rows, power, rows_of
from hushdrawers.errors import BadNumber, TooMany
from hushdrawers.houses import check_drawer, check_house, check_number, coin_count
from hushdrawers.lives import above
from hushdrawers.runs import check_run, run, seen
from hushdrawers.stores import WAYS, check_way

MOST_PARTED = 4
MOST_TRIED = 20000


def check_often(is_often):
    """Raise BadNumber for any value but True and False."""
    if not isinstance(is_often, bool):
        raise BadNumber()


def shown(house, way, life, coins, drawer, is_often):
    """What the keys 0 to a drawer show of a life at all times, or at its end alone."""
    _, history = run(house, way, life, coins)
    times = tuple(range(len(history)))
    if is_often:
        return seen(history, drawer, times)
    return seen(history, drawer, times[-1:])


def differs(house, way, life, coins, drawer, is_often):
    """Whether the keys 0 to a drawer show something else than in upper of a life."""
    bare = above(life, drawer)
    told = shown(house, way, life, coins, drawer, is_often)
    return told != shown(house, way, bare, coins, drawer, is_often)


def is_parted(house, way, life, coins, drawer, is_often):
    """Whether a holder of the keys 0 to a drawer sees something else than in upper of a life."""
    check_run(house, way, life, coins)
    check_drawer(house, drawer)
    check_often(is_often)
    return differs(house, way, life, coins, drawer, is_often)


def check_search(house, drawer, moments, is_often):
    """Raise the first error of what is looked through, but for the house and the way."""
    check_drawer(house, drawer)
    check_number(moments, 0, MOST_PARTED)
    check_often(is_often)
    if power(coin_count(house) * len(small_moments(house)), moments) > MOST_TRIED:
        raise TooMany(MOST_TRIED)


def small_moments(house):
    """The moments of small stories, ascending."""
    deeds = [(drawer, page, 0) for drawer in range(house[2]) for page in range(house[3])]
    return [()] + [(deed,) for deed in deeds]


def first_parting(house, way, drawer, moments, is_often):
    """The first of the shortest (story, coins) that are parted, or None."""
    for many in range(1, moments + 1):
        rows = coin_rows(house, many)
        for story in rows_of(small_moments(house), many):
            life = ((house[2] - 1, story),)
            for coins in rows:
                if differs(house, way, life, coins, drawer, is_often):
                    return (story, coins)
    return None


def parting(house, way, drawer, moments, is_often):
    """The first of the shortest small stories, with coins, by which a way gives itself away."""
    check_house(house)
    check_way(way)
    check_search(house, drawer, moments, is_often)
    return first_parting(house, way, drawer, moments, is_often)


def safe_ways(house, drawer, moments, is_often):
    """The ways for which there is no parting."""
    check_house(house)
    check_search(house, drawer, moments, is_often)
    safe = []
    for way in WAYS:
        if first_parting(house, way, drawer, moments, is_often) is None:
            safe.append(way)
    return tuple(safe)
