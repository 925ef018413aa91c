"""Sketches: what the first picture may have been, cell by cell."""

from smalti.cells import Region
from smalti.errors import EmptyCell, InvalidSigns, InvalidSketch, OutOfPicture, UnequalSize
from smalti.pictures import MOST, Picture, are_different_signs, in_ascii_order

_ANY_WORD = "*"


def _are_allowed_signs(signs):
    """Whether a text is one or more different signs, each a stone or a hole."""
    return are_different_signs(signs, Picture.HOLE)


def _check_sizes(sketch, other):
    """Raise UnequalSize if a sketch and a sketch or picture differ in size."""
    if sketch.width != other.width or sketch.height != other.height:
        raise UnequalSize()


def _is_bad_row(words, width):
    """Whether words cannot be a row of a sketch whose first row has that width."""
    if len(words) > MOST or len(words) != width:
        return True
    return not all([word == _ANY_WORD or _are_allowed_signs(word) for word in words])


def _bad_line(rows):
    """The line of the first bad row of words, or 0 if the rows are a sketch."""
    for line, words in enumerate(rows[:MOST], start=1):
        if _is_bad_row(words, len(rows[0])):
            return line
    return MOST + 1 if len(rows) > MOST else 0


def _read_word(word):
    """The allowed signs of a cell that a good word names."""
    return Sketch.ANY if word == _ANY_WORD else in_ascii_order(word)


def _common_signs(signs, others):
    """The signs that two texts have in common, in the order of the first."""
    return "".join([sign for sign in signs if sign in others])


class Sketch:
    """For each cell one or more allowed signs, each a stone or a hole."""

    ANY = ".abcdefghijklmnopqrstuvwxyz"

    # An operator changes nothing, so it cannot fill a sketch that it has made: it passes
    # the rows. Only this file does so.
    def __init__(self, width, height, *, _rows=None):
        if not 1 <= width <= MOST or not 1 <= height <= MOST:
            raise InvalidSketch(0)
        self.width = width
        self.height = height
        self._rows = [[self.ANY] * width for _ in range(height)] if _rows is None else _rows

    @classmethod
    def read(cls, text):
        """The sketch whose rows of words are separated by newlines."""
        words = [row.split(" ") for row in text.split("\n")]
        line = _bad_line(words)
        if line > 0:
            raise InvalidSketch(line)
        rows = [[_read_word(word) for word in row] for row in words]
        return cls(len(rows[0]), len(rows), _rows=rows)

    @classmethod
    def of(cls, picture):
        """The sketch that allows exactly the signs of the picture."""
        rows = [list(row) for row in picture.lines()]
        return cls(picture.width, picture.height, _rows=rows)

    def allow(self, x, y, signs):
        """Replace the allowed signs of a cell."""
        self._check_cell(x, y)
        if not _are_allowed_signs(signs):
            raise InvalidSigns(signs)
        self._rows[y][x] = in_ascii_order(signs)

    def text(self):
        """The text that Sketch.read takes."""
        words = [[_ANY_WORD if signs == self.ANY else signs for signs in row] for row in self._rows]
        return "\n".join([" ".join(row) for row in words])

    def fits(self, picture):
        """Whether each sign of the picture is allowed."""
        _check_sizes(self, picture)
        return all([picture[cell] in self[cell] for cell in picture.every_cell()])

    def ways(self):
        """The number of pictures that fit."""
        number = 1
        for row in self._rows:
            for signs in row:
                number *= len(signs)
        return number

    def copy(self):
        """An equal sketch that changes apart from this one."""
        return Sketch(self.width, self.height, _rows=[list(row) for row in self._rows])

    def _check_cell(self, x, y):
        """Raise OutOfPicture if the cell is not in the sketch."""
        if not 0 <= x < self.width or not 0 <= y < self.height:
            raise OutOfPicture(x, y)

    def __getitem__(self, at):
        x, y = at
        self._check_cell(x, y)
        return self._rows[y][x]

    def __setitem__(self, at, worth):
        x, y = at
        self.allow(x, y, worth)

    # Without this, Python would try to iterate with the indexes 0, 1, 2 ..
    def __iter__(self):
        raise TypeError("a sketch is not iterated over")

    def __and__(self, other):
        _check_sizes(self, other)
        pairs = [list(zip(row, beside)) for row, beside in zip(self._rows, other._rows)]
        rows = [[_common_signs(signs, others) for signs, others in row] for row in pairs]
        for y, row in enumerate(rows):
            for x, signs in enumerate(row):
                if signs == "":
                    raise EmptyCell(x, y)
        return Sketch(self.width, self.height, _rows=rows)

    def __eq__(self, other):
        return isinstance(other, Sketch) and self._rows == other._rows


def required_cells(sketch, picture):
    """The region of the stones that the sketch does not allow where they are."""
    _check_sizes(sketch, picture)
    return Region([cell for cell in picture.stones().cells() if picture[cell] not in sketch[cell]])
