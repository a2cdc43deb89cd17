"""Houses and lives as texts: how they are written, and how such texts are read."""

from hushdrawers.errors import BadText
from hushdrawers.houses import check_house, is_house
from hushdrawers.lives import check_life, is_life, with_moment, with_session

MOST_DIGITS = 6


def deed_text(drawer, page, content):
    """A page and its content as a word."""
    return f"{drawer}:{page}={content}"


def moment_text(moment):
    """A moment as a line without its end."""
    if not moment:
        return "-"
    return " ".join([deed_text(drawer, page, content) for drawer, page, content in moment])


def session_lines(session):
    """A session as a list of lines without their ends."""
    deepest, story = session
    return [f"keys {deepest}"] + [moment_text(moment) for moment in story]


def written(house, life):
    """A house and a life as a text."""
    check_house(house)
    check_life(house, life)
    lines = [" ".join(["house"] + [str(number) for number in house])]
    for session in life:
        lines.extend(session_lines(session))
    return "".join([line + "\n" for line in lines])


def is_digits(word):
    """Whether a word is a number of 1 to 6 digits."""
    # Other digits than 0 to 9 are digits to Python, but no ASCII.
    return len(word) <= MOST_DIGITS and word.isascii() and word.isdigit()


def number_of(word):
    """The number that a word tells without needless noughts, None if it tells none."""
    # No number of a house or a life has more digits than is_digits allows.
    if not is_digits(word) or (len(word) > 1 and word[0] == "0"):
        return None
    return int(word)


def house_of(line):
    """The house that a line tells, or a value that is no house."""
    words = line.split(" ")
    if words[0] != "house":
        return None
    return tuple(number_of(word) for word in words[1:])


def deed_of(word):
    """The deed that a word tells, or a value that is no deed."""
    # Where a mark is missing, what stands behind it is empty, and so no number.
    drawer, _, rest = word.partition(":")
    page, _, content = rest.partition("=")
    return (number_of(drawer), number_of(page), number_of(content))


def moment_of(line):
    """The moment that a line tells, or a value that is no moment."""
    if line == "-":
        return ()
    return tuple(deed_of(word) for word in line.split(" "))


def longer(life, line):
    """A life with the session or the moment that a line tells, or a value that is no life."""
    words = line.split(" ")
    if words[0] == "keys" and len(words) == 2:
        return with_session(life, number_of(words[1]))
    if not life:
        return None
    return with_moment(life, moment_of(line))


def check_text(text):
    """Raise BadText for a value that is no text of whole lines, one at least."""
    if not isinstance(text, str) or text == "":
        raise BadText(0)
    if text[-1] != "\n":
        raise BadText(text.count("\n"))


def read_life(text):
    """The house and the life that a text tells."""
    check_text(text)
    lines = text.split("\n")[:-1]
    house = house_of(lines[0])
    if not is_house(house):
        raise BadText(0)
    life = ()
    for at, line in enumerate(lines[1:], start=1):
        life = longer(life, line)
        if not is_life(house, life):
            raise BadText(at)
    if not life:
        raise BadText(len(lines))
    return (house, life)
