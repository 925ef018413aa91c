"""Sites: mosaics in time, whose stones fall out and are mended."""

from smalti.cells import Region
from smalti.errors import BadDeed, NoHole, NothingToUndo, RuleClash, SmaltiError
from smalti.pictures import Picture, check_cell, check_stone

FALL = "fall"
MEND = "mend"


def is_fall(deed):
    """Whether a value has the form of a fall."""
    return isinstance(deed, tuple) and len(deed) == 3 and deed[0] == FALL


def is_mending(deed):
    """Whether a value has the form of a mending."""
    return isinstance(deed, tuple) and len(deed) == 5 and deed[0] == MEND


def _check_hole(picture, x, y):
    """Raise an error if there is no hole at the cell."""
    check_cell(picture, x, y)
    if picture[x, y] != Picture.HOLE:
        raise NoHole(x, y)


def _mended_by(rule, picture, x, y, stone):
    """The picture after the rule has laid the stone into the hole at the cell."""
    places = rule.clashes(picture, x, y, stone)
    if len(places) > rule.slack:
        raise RuleClash(places)
    return picture.with_sign(x, y, stone)


class Mender:
    """A mender who knows one rule, and counts the calls."""

    def __init__(self, book, number):
        self._rule = book.rule(number)
        self.laid = 0
        self.refused = 0

    def __call__(self, picture, x, y, stone):
        try:
            _check_hole(picture, x, y)
            after = _mended_by(self._rule, picture, x, y, stone)
        except SmaltiError:
            self.refused += 1
            raise
        self.laid += 1
        return after


class Site:
    """A picture that changes by deeds, with all its deeds."""

    def __init__(self, book, picture):
        self._book = book
        self._picture = picture
        self._log = []
        self._earlier = []
        self._counts = {}

    @property
    def picture(self):
        """The present picture."""
        return self._picture

    @property
    def mended(self):
        """The region of the cells that were mended at least once."""
        return Region([cell for cell, count in self._counts.items() if count > 0])

    @property
    def total(self):
        """The number of mendings."""
        return sum(self._counts.values())

    def mendings(self, x, y):
        """The number of mendings of one cell."""
        check_cell(self._picture, x, y)
        return self._counts.get((x, y), 0)

    def fall(self, x, y):
        """Let the stone at the cell fall out."""
        check_stone(self._picture, x, y)
        self._note((FALL, x, y), self._picture.with_sign(x, y, Picture.HOLE))

    def mend(self, x, y, number, stone):
        """Lay the stone into the hole at the cell, by the rule with that number."""
        _check_hole(self._picture, x, y)
        rule = self._book.rule(number)
        after = _mended_by(rule, self._picture, x, y, stone)
        self._note((MEND, x, y, number, stone), after)
        self._counts[x, y] = self._counts.get((x, y), 0) + 1

    def log(self):
        """The list of all deeds in order."""
        return list(self._log)

    def undo(self):
        """Take back the last deed and return it."""
        if not self._log:
            raise NothingToUndo()
        deed = self._log.pop()
        self._picture = self._earlier.pop()
        if is_mending(deed):
            self._counts[deed[1:3]] -= 1
        return deed

    def run(self, deeds):
        """Do all deeds of a list, or none of them, and return their number."""
        before = len(self._log)
        for index, deed in enumerate(deeds):
            if not self._could_do(deed):
                self._go_back_to(before)
                raise BadDeed(index)
        return len(deeds)

    def _could_do(self, deed):
        """Do a deed; return False if it is none, or cannot be done."""
        try:
            if is_fall(deed):
                self.fall(deed[1], deed[2])
            elif is_mending(deed):
                self.mend(deed[1], deed[2], deed[3], deed[4])
            else:
                return False
        except SmaltiError:
            return False
        return True

    def _go_back_to(self, number):
        """Take back deeds until there are no more than that number."""
        while len(self._log) > number:
            self.undo()

    def _note(self, deed, after):
        """Put a deed that can be done into the log, with the picture after it."""
        self._log.append(deed)
        self._earlier.append(self._picture)
        self._picture = after
