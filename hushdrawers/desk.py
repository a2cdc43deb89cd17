"""A desk at which a store is told line by line what to do."""

from hushdrawers.errors import BadLine
from hushdrawers.houses import drawn, is_coin, is_drawer, is_house, is_page
from hushdrawers.lives import is_life, is_session, with_moment, with_session
from hushdrawers.runs import opened
from hushdrawers.stores import Store
from hushdrawers.texts import deed_text, is_digits, session_lines

# How many numbers stand behind the first word of each line.
FORMS = {"house": 5, "keys": 1, "put": 3, "seal": 1, "get": 2, "wait": 1, "look": 1, "life": 0}


def form_of(line):
    """The first word of a line and the list of its numbers."""
    if not isinstance(line, str):
        raise BadLine("words")
    word, *rest = line.split(" ")
    if len(rest) != FORMS.get(word):
        raise BadLine("words")
    for digits in rest:
        if not is_digits(digits):
            raise BadLine("words")
    return word, [int(digits) for digits in rest]


def listed(numbers):
    """Some numbers parted by commas."""
    return ",".join([str(number) for number in numbers])


class Desk:
    """A store in the way "true" and the life that it has had so far, at first without a house.

    deeds holds the deeds that stand for the next moment; life is () while no session is begun.
    """

    def __init__(self):
        self.house = None
        self.life = ()
        self.deeds = ()
        self.store = None

    def do(self, line):
        """Do a line and return what it tells."""
        word, numbers = form_of(line)
        if word == "house":
            return self.begin_house(tuple(numbers))
        if self.house is None:
            raise BadLine("house")
        if word == "keys":
            return self.begin_session(numbers[0])
        if not self.life:
            raise BadLine("keys")
        return self.do_in_session(word, numbers)

    def do_in_session(self, word, numbers):
        """Do one of the lines that need a session."""
        if word == "put":
            return self.put_deed(tuple(numbers))
        if word == "seal":
            return self.seal_cells(numbers[0])
        if word == "get":
            return self.content_text(numbers[0], numbers[1])
        if word == "wait":
            return self.waiting_text(numbers[0])
        if word == "look":
            return self.cells_text(numbers[0])
        return self.life_text()

    def begin_house(self, house):
        """Begin anew with a house."""
        if not is_house(house):
            raise BadLine("refused")
        self.house = house
        self.life = ()
        self.deeds = ()
        self.store = Store(house, "true")
        return "ready"

    def begin_session(self, deepest):
        """Begin a session, without the deeds that stand."""
        life = with_session(self.life, deepest)
        if not is_life(self.house, life):
            raise BadLine("refused")
        self.life = life
        self.deeds = ()
        self.store.begin(deepest)
        return f"keys 0 to {deepest}"

    def put_deed(self, deed):
        """Let a deed stand for the next moment, and tell how many do."""
        deeds = self.deeds + (deed,)
        # The life is not asked: a deed may stand where no further moment can be done.
        if not is_session(self.house, (self.life[-1][0], (deeds,))):
            raise BadLine("refused")
        self.deeds = deeds
        return str(len(deeds))

    def seal_cells(self, coin):
        """Do a moment with the deeds that stand, and tell the cells that were sealed anew."""
        life = with_moment(self.life, self.deeds)
        if not is_coin(self.house, coin) or not is_life(self.house, life):
            raise BadLine("refused")
        for drawer, page, content in self.deeds:
            self.store.put(drawer, page, content)
        self.life = life
        self.deeds = ()
        return listed(self.store.seal(drawn(self.house, coin)))

    def check_key(self, drawer):
        """Refuse a drawer whose key is not at work."""
        if drawer > self.life[-1][0]:
            raise BadLine("refused")

    def content_text(self, drawer, page):
        """The content of the newest known version of a page."""
        self.check_key(drawer)
        if not is_page(self.house, page):
            raise BadLine("refused")
        _, content = self.store.known.get((drawer, page), (0, "none"))
        return str(content)

    def waiting_text(self, drawer):
        """The pages of a drawer whose copies wait, as they stand in the row."""
        self.check_key(drawer)
        return listed(self.store.rows[drawer]) or "none"

    def cells_text(self, drawer):
        """What the keys 0 to a drawer open, cell by cell."""
        if not is_drawer(self.house, drawer):
            raise BadLine("refused")
        words = []
        for held in opened(self.store.cells, drawer):
            if held is None:
                words.append("-")
            else:
                words.append(deed_text(held[0], held[1], held[3]))
        return " ".join(words)

    def life_text(self):
        """The sessions that were done so far."""
        return " | ".join([" / ".join(session_lines(session)) for session in self.life])
