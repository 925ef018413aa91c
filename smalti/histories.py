"""Histories: first pictures with their deeds."""

from smalti.cells import Region, decimal
from smalti.errors import BadDeed, Impossible, InvalidHistory, InvalidPicture, UnequalSize
from smalti.peeling import Peeling
from smalti.pictures import Picture, is_stone, stones_in
from smalti.sites import FALL, MEND, Site, is_mending
from smalti.sketches import required_cells

_BREAK = "--"
_COORDINATES = "01234567"
_DIGITS = "0123456789"


def _are_coordinates(words):
    """Whether each word is one digit from 0 to 7."""
    return all([len(word) == 1 and word in _COORDINATES for word in words])


def _is_number(word):
    """Whether a word is a number from 0 to 99 without leading zeros."""
    if not 1 <= len(word) <= 2 or not all([sign in _DIGITS for sign in word]):
        return False
    return len(word) == 1 or word[0] != "0"


def _read_deed(text, line):
    """The deed on the line of a history that has that number."""
    words = text.split(" ")
    if len(words) == 3 and words[0] == FALL and _are_coordinates(words[1:]):
        return FALL, int(words[1]), int(words[2])
    if len(words) == 5 and words[0] == MEND and _are_coordinates(words[1:3]):
        if _is_number(words[3]) and is_stone(words[4]):
            return MEND, int(words[1]), int(words[2]), int(words[3]), words[4]
    raise InvalidHistory(line)


def _read_first(rows):
    """The first picture of a history that begins with the rows."""
    try:
        return Picture(rows)
    except InvalidPicture as error:
        raise InvalidHistory(error.line) from None


def _deed_line(deed):
    """The line on which a deed is written."""
    return " ".join([word if isinstance(word, str) else decimal(word) for word in deed])


class History:
    """A first picture and a list of deeds."""

    def __init__(self, first, deeds):
        self.first = first
        self.deeds = list(deeds)

    @classmethod
    def read(cls, text):
        """The history that is written as the text."""
        lines = text.split("\n")
        if _BREAK not in lines:
            raise InvalidHistory(len(lines) + 1)
        above = lines.index(_BREAK)
        first = _read_first(lines[:above])
        below = lines[above + 1:]
        return cls(first, [_read_deed(line, number) for number, line in enumerate(below, start=above + 2)])

    def text(self):
        """The text that History.read takes."""
        return "\n".join(self.first.lines() + [_BREAK] + [_deed_line(deed) for deed in self.deeds])

    def last(self, book):
        """The picture after all deeds, done by the rules of the book."""
        site = Site(book, self.first)
        site.run(self.deeds)
        return site.picture

    def mended_cells(self):
        """The region of the cells of all mendings."""
        return Region([deed[1:3] for deed in self.deeds if is_mending(deed)])

    def mending_count(self):
        """The number of mendings."""
        return len([deed for deed in self.deeds if is_mending(deed)])


def check_history(book, sketch, picture, history):
    """Whether the history fits the sketch and leads to the picture."""
    try:
        return sketch.fits(history.first) and history.last(book) == picture
    except (UnequalSize, BadDeed):
        return False


def _first_row(sketch, picture, changed, y):
    """A row of the picture with the least sign that the sketch allows at each cell of a region."""
    row = [(x, y) for x in range(picture.width)]
    return "".join([sketch[cell][0] if cell in changed else picture[cell] for cell in row])


def history_in_order(peeling, sketch, picture, order):
    """A history that mends each cell of a list once.

    Each of these cells can be loosened with those before it in the list as holes.
    """
    changed = picture.holes() | Region(order)
    first = Picture([_first_row(sketch, picture, changed, y) for y in range(picture.height)])
    falls = [(FALL, x, y) for x, y in (first.stones() & changed).cells()]
    mendings = []
    for at, (x, y) in enumerate(order):
        number = peeling.least_rule((x, y), order[:at])
        mendings.append((MEND, x, y, number, picture[x, y]))
    # What was loosened last was mended first.
    return History(first, falls + mendings[::-1])


def check_possible(lacking):
    """Raise Impossible if there are cells that must be mended but are not loosened."""
    if lacking:
        raise Impossible(lacking.cells())


def history_mending(book, sketch, picture, *, held=None):
    """A history that mends every loosened cell once and no other cell."""
    needed = required_cells(sketch, picture)
    peeling = Peeling(book, picture)
    order = peeling.order(stones_in(picture, held))
    check_possible(needed - Region(order))
    return history_in_order(peeling, sketch, picture, order)
