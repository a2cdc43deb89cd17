"""The store of sealed cells, in its true way and in five faulty ones."""

from hushdrawers.errors import BadHouse

WAYS = ("true", "free", "idle", "kept", "need", "lower")


def check_way(way):
    """Raise BadHouse("way") for a value that is no way."""
    if not isinstance(way, str) or way not in WAYS:
        raise BadHouse("way")


class Store:
    """A store in one of the ways, at first with nothing in any cell.

    cells holds, cell by cell, None or what is sealed in it: (drawer, page, version, content).
    known tells the newest known (version, content) of each (drawer, page) whose key is at work.
    rows holds the waiting row of each drawer whose key is at work: a page for each waiting copy.
    """

    def __init__(self, house, way):
        cells, _, _, pages, copies = house
        self.way = way
        self.pages = pages
        self.copies = copies
        self.cells = [None] * cells
        self.known = {}
        self.rows = []

    def begin(self, deepest):
        """Begin a session with the keys of the drawers 0 to deepest."""
        self.known = {}
        for held in self.cells:
            if held is not None and held[0] <= deepest:
                self.learn(held)
        self.rows = [self.missing(drawer) for drawer in range(deepest + 1)]

    def learn(self, held):
        """Know what is sealed in a cell, if nothing as new is known of its page."""
        drawer, page, version, content = held
        if version > self.known.get((drawer, page), (0, 0))[0]:
            self.known[(drawer, page)] = (version, content)

    def missing(self, drawer):
        """The pages of a drawer, each as often as copies of its newest version are in no cell."""
        live = [held[:2] for cell, held in enumerate(self.cells) if self.is_live(cell)]
        row = []
        for page in range(self.pages):
            if (drawer, page) in self.known:
                row.extend([page] * (self.copies - live.count((drawer, page))))
        return row

    def is_live(self, cell):
        """Whether a page is live in a cell."""
        if self.cells[cell] is None:
            return False
        drawer, page, version, content = self.cells[cell]
        # Nothing is known of drawers whose keys are not at work.
        return self.known.get((drawer, page)) == (version, content)

    def put(self, drawer, page, content):
        """Do a deed: a new version of a page waits in as many copies as are kept."""
        version, _ = self.known.get((drawer, page), (0, 0))
        self.known[(drawer, page)] = (version + 1, content)
        # A row tells pages alone, so the copies in it become new ones at their places.
        row = self.rows[drawer]
        row.extend([page] * (self.copies - row.count(page)))

    def seal(self, drawn_cells):
        """Seal the drawn cells anew, and return those that were, as an ascending tuple."""
        fresh = self.sealed_of(drawn_cells)
        # What is live is settled ahead of this sealing, for all drawers.
        live = {cell: self.cells[cell] for cell in fresh if self.is_live(cell)}
        taken = {}
        for drawer in self.sequence():
            self.take_again(drawer, live, taken)
            self.take_bare(drawer, fresh, live, taken)
        for cell in fresh:
            self.cells[cell] = taken.get(cell)
        return fresh

    def sealed_of(self, drawn_cells):
        """The cells of the drawn set that this way of a store seals anew."""
        many = sum(len(row) for row in self.rows)
        if self.way == "idle" and many == 0:
            return ()
        if self.way == "kept":
            return tuple(cell for cell in drawn_cells if not self.is_live(cell))
        if self.way == "need":
            return drawn_cells[:many]
        return drawn_cells

    def sequence(self):
        """The drawers whose keys are at work, as they choose one after the other."""
        drawers = list(range(len(self.rows)))
        if self.way == "lower":
            return drawers[::-1]
        return drawers

    def take_again(self, drawer, live, taken):
        """A drawer's live pages take their cells again, or wait where the cell is taken."""
        for cell, held in live.items():
            if held[0] == drawer and cell in taken:
                self.rows[drawer].append(held[1])
            elif held[0] == drawer:
                taken[cell] = held

    def take_bare(self, drawer, fresh, live, taken):
        """A drawer's waiting copies take the cells that nobody has taken."""
        row = self.rows[drawer]
        for cell in fresh:
            is_shut = cell in taken or (self.way == "free" and cell in live)
            if row and not is_shut:
                page = row.pop(0)
                version, content = self.known[(drawer, page)]
                taken[cell] = (drawer, page, version, content)
