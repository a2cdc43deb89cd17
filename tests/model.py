"""A second store, written from the document alone, to compare the program with.

It keeps whole copies (drawer, page, version, content) in its rows, looks every answer up in the
cells each time, and shares no code with the program.
"""

from itertools import combinations, product


def newest(cells, drawer, page):
    """The newest (version, content) of a page in some cells, or None."""
    found = [held[2:] for held in cells if held is not None and held[:2] == (drawer, page)]
    return max(found) if found else None


class Model:
    def __init__(self, house, way):
        self.house = house
        self.way = way
        self.cells = (None,) * house[0]
        self.known = {}
        self.wait = {}

    def begin(self, deepest):
        _, _, _, pages, copies = self.house
        self.known = {}
        self.wait = {drawer: [] for drawer in range(deepest + 1)}
        for drawer in range(deepest + 1):
            for page in range(pages):
                told = newest(self.cells, drawer, page)
                if told is not None:
                    self.known[drawer, page] = told
                    copy = (drawer, page, *told)
                    many = copies - self.cells.count(copy)
                    self.wait[drawer] += [copy] * many

    def live(self, cell):
        held = self.cells[cell]
        if held is None or held[0] not in self.wait:
            return False
        return self.known[held[:2]][0] == held[2]

    def moment(self, deeds, coin):
        for drawer, page, content in deeds:
            version = self.known.get((drawer, page), (0,))[0] + 1
            self.known[drawer, page] = (version, content)
            new = (drawer, page, version, content)
            row = [new if copy[1] == page else copy for copy in self.wait[drawer]]
            while row.count(new) < self.house[4]:
                row.append(new)
            self.wait[drawer] = row
        lots = list(combinations(range(self.house[0]), self.house[1]))[coin]
        many = sum(map(len, self.wait.values()))
        if self.way == "idle" and not many:
            lots = ()
        if self.way == "kept":
            lots = tuple(cell for cell in lots if not self.live(cell))
        if self.way == "need":
            lots = lots[:many]
        self.cells = self.sealed(lots)
        return lots

    def sealed(self, lots):
        live = [cell for cell in lots if self.live(cell)]
        after = {}
        for drawer in sorted(self.wait, reverse=self.way == "lower"):
            for cell in live:
                if self.cells[cell][0] == drawer:
                    if cell in after:
                        self.wait[drawer].append(self.cells[cell])
                    else:
                        after[cell] = self.cells[cell]
            for cell in lots:
                if self.way == "free" and cell in live:
                    continue
                if cell not in after and self.wait[drawer]:
                    after[cell] = self.wait[drawer].pop(0)
        return tuple(
            after.get(cell) if cell in lots else held for cell, held in enumerate(self.cells))


def told(house, way, life, coins):
    """Everything that the program can be asked of a life, in one dict."""
    model = Model(house, way)
    states, sets = [model.cells], [()]
    rest = list(coins)
    for deepest, story in life:
        model.begin(deepest)
        for deeds in story:
            sets.append(model.moment(deeds, rest.pop(0)))
            states.append(model.cells)
    last = life[-1][0]
    keys = range(last + 1)
    later = {(d, p): newest(model.cells, d, p) for d in range(house[2]) for p in range(house[3])}
    return {
        "states": states,
        "sets": sets,
        "read": {(d, p): model.known.get((d, p)) for d in keys for p in range(house[3])},
        "waiting": {d: tuple(copy[1] for copy in model.wait[d]) for d in keys},
        "places": {d: tuple(sorted(
            (held[1], cell) for cell, held in enumerate(model.cells)
            if model.live(cell) and held[0] == d)) for d in keys},
        "later": later,
    }


def rows_of_coins(house, many):
    """All rows of the coins of so many moments."""
    return product(range(len(list(combinations(range(house[0]), house[1])))), repeat=many)


def viewed(house, way, life, coins, drawer, times):
    """What the keys from 0 to a drawer show at some times."""
    model = told(house, way, life, coins)
    pairs = []
    for place, at in enumerate(times):
        before = times[place - 1] if place else at
        since = {cell for fresh in model["sets"][before + 1:at + 1] for cell in fresh}
        cells = [held if held and held[0] <= drawer else None for held in model["states"][at]]
        pairs.append((tuple(cells), tuple(sorted(since))))
    return tuple(pairs)


def bared(life, drawer):
    """A life without keys and deeds of the drawers beneath a drawer."""
    return tuple(
        (min(deepest, drawer), tuple(tuple(d for d in deeds if d[0] <= drawer) for deeds in story))
        for deepest, story in life)


def parted(house, way, life, coins, drawer, is_often):
    """Whether the keys from 0 to a drawer show something else than without what is beneath."""
    many = sum(len(story) for _, story in life)
    times = tuple(range(many + 1)) if is_often else (many,)
    return (viewed(house, way, life, coins, drawer, times)
            != viewed(house, way, bared(life, drawer), coins, drawer, times))
