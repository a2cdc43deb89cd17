"""Stories, lives and their coins, and what of a life is done in the upper drawers."""

from hushdrawers.errors import BadCoins, BadLife, BadStory
from hushdrawers.houses import check_drawer, check_house, is_coin, is_drawer, is_number, is_page

MOST_DEEDS = 6
MOST_MOMENTS = 40
MOST_SESSIONS = 6


def is_deed(house, value):
    """Whether any value is a deed."""
    if not isinstance(value, tuple) or len(value) != 3:
        return False
    drawer, page, content = value
    return is_drawer(house, drawer) and is_page(house, page) and is_number(content, 0, 9)


def is_moment(house, value):
    """Whether any value is a moment."""
    if not isinstance(value, tuple) or len(value) > MOST_DEEDS:
        return False
    return all(is_deed(house, deed) for deed in value)


def check_story(house, story):
    """Raise BadStory for a value that is no story."""
    if not isinstance(story, tuple) or len(story) > MOST_MOMENTS:
        raise BadStory(None)
    for at, moment in enumerate(story):
        if not is_moment(house, moment):
            raise BadStory(at)


def is_story(house, value):
    """Whether any value is a story."""
    check_house(house)
    try:
        check_story(house, value)
    except BadStory:
        return False
    return True


def is_session(house, value):
    """Whether any value is a session."""
    if not isinstance(value, tuple) or len(value) != 2:
        return False
    deepest, story = value
    if not is_drawer(house, deepest) or not is_story(house, story):
        return False
    return all(deed[0] <= deepest for moment in story for deed in moment)


def check_life(house, life):
    """Raise BadLife for a value that is no life."""
    if not isinstance(life, tuple) or not 1 <= len(life) <= MOST_SESSIONS:
        raise BadLife(None)
    moments = 0
    for at, session in enumerate(life):
        if not is_session(house, session):
            raise BadLife(at)
        moments += len(session[1])
        if moments > MOST_MOMENTS:
            raise BadLife(at)


def is_life(house, value):
    """Whether any value is a life."""
    check_house(house)
    try:
        check_life(house, value)
    except BadLife:
        return False
    return True


def moment_count(life):
    """How many moments all sessions of a life have."""
    return sum(len(session[1]) for session in life)


def check_coins(house, life, coins):
    """Raise BadCoins for a value that is not the coins of a life."""
    if not isinstance(coins, tuple) or len(coins) != moment_count(life):
        raise BadCoins(None)
    for at, coin in enumerate(coins):
        if not is_coin(house, coin):
            raise BadCoins(at)


def with_session(life, deepest):
    """A life with a further session in which nothing is done yet."""
    return life + ((deepest, ()),)


def with_moment(life, moment):
    """A life with a further moment of its last session."""
    deepest, story = life[-1]
    return life[:-1] + ((deepest, story + (moment,)),)


def upper_moment(moment, drawer):
    """A moment without the deeds in drawers beneath a drawer."""
    return tuple(deed for deed in moment if deed[0] <= drawer)


def above(life, drawer):
    """A life without the keys of the drawers beneath a drawer, and without the deeds in them."""
    sessions = []
    for deepest, story in life:
        moments = tuple(upper_moment(moment, drawer) for moment in story)
        sessions.append((min(deepest, drawer), moments))
    return tuple(sessions)


def upper(house, life, drawer):
    """The life that is left of a life for those who have the keys from 0 to a drawer."""
    check_house(house)
    check_life(house, life)
    check_drawer(house, drawer)
    return above(life, drawer)


def alike_above(house, one, other, drawer):
    """Whether two lives are the same from the uppermost drawer to this one."""
    check_house(house)
    check_life(house, one)
    check_life(house, other)
    check_drawer(house, drawer)
    return above(one, drawer) == above(other, drawer)
