"""The errors that the program raises, all of them beneath DrawerError."""


class DrawerError(ValueError):
    """The base of all errors of the program."""


class BadHouse(DrawerError):
    """A value that is no house, or no way: word tells what is wrong first."""

    def __init__(self, word):
        self.word = word


class BadStory(DrawerError):
    """A value that is no story: index is the first wrong moment's place, or None."""

    def __init__(self, index):
        self.index = index


class BadLife(DrawerError):
    """A value that is no life: index is the first wrong session's place, or None."""

    def __init__(self, index):
        self.index = index


class BadCoins(DrawerError):
    """A value that is not the coins of a life: index is the first wrong coin's place, or None."""

    def __init__(self, index):
        self.index = index


class BadDrawer(DrawerError):
    """A value that is no drawer, or a drawer whose key is not at work."""


class BadPage(DrawerError):
    """A value that is no page."""


class BadTimes(DrawerError):
    """A value that is not the times of some looks."""


class BadNumber(DrawerError):
    """A value that is no coin, no set of cells, or no number that is asked for."""


class BadText(DrawerError):
    """A text that tells no life: line is the number of the wrong line."""

    def __init__(self, line):
        self.line = line


class BadLine(DrawerError):
    """A line that a desk can't do: word tells why."""

    def __init__(self, word):
        self.word = word


class TooMany(DrawerError):
    """More than can be gone through: most is the greatest number that can."""

    def __init__(self, most):
        self.most = most
