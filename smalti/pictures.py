"""Pictures: small grids of stones and holes, and what their signs are."""

from smalti.cells import Region
from smalti.errors import InvalidPicture, InvalidSign, NoStone, OutOfPicture, UnequalSize

STONES = "abcdefghijklmnopqrstuvwxyz"
MOST = 8


def is_stone(sign):
    """Whether a text is one letter from a to z."""
    # Longer texts and the empty text can be parts of STONES, too.
    return len(sign) == 1 and sign in STONES


def is_stone_or_hole(sign):
    """Whether a text can be a sign of a picture."""
    return sign == Picture.HOLE or is_stone(sign)


def check_sign(sign):
    """Raise InvalidSign if a text cannot be a sign of a picture."""
    if not is_stone_or_hole(sign):
        raise InvalidSign(sign)


def are_different_signs(signs, besides):
    """Whether a text is one or more different signs, each a stone or the one besides."""
    if signs == "" or len(set(signs)) < len(signs):
        return False
    return all([sign == besides or is_stone(sign) for sign in signs])


def in_ascii_order(signs):
    """The text with the same signs, in the order of ASCII."""
    return "".join(sorted(signs))


def _is_bad_row(row, width):
    """Whether a row cannot stand in a picture whose first row has that width."""
    if not 1 <= len(row) <= MOST or len(row) != width:
        return True
    return not all([is_stone_or_hole(sign) for sign in row])


def _bad_line(rows):
    """The line of the first bad row, or 0 if the rows are a picture."""
    if not rows:
        return 1
    for line, row in enumerate(rows[:MOST], start=1):
        if _is_bad_row(row, len(rows[0])):
            return line
    return MOST + 1 if len(rows) > MOST else 0


class Picture:
    """A grid of stones and holes. It never changes."""

    HOLE = "."
    EDGE = "#"

    def __init__(self, rows):
        line = _bad_line(rows)
        if line > 0:
            raise InvalidPicture(line)
        self._rows = list(rows)
        self.width = len(rows[0])
        self.height = len(rows)

    @classmethod
    def read(cls, text):
        """The picture whose rows are separated by newlines."""
        return cls(text.split("\n"))

    @classmethod
    def plain(cls, width, height, sign):
        """A picture with the same sign everywhere."""
        check_sign(sign)
        return cls([sign * width] * height)

    def lines(self):
        """The list of the rows as texts."""
        return list(self._rows)

    def every_cell(self):
        """The list of all cells of the picture in reading order."""
        return [(x, y) for y in range(self.height) for x in range(self.width)]

    def stones(self):
        """The region of the cells with a stone."""
        return Region([cell for cell in self.every_cell() if self[cell] != self.HOLE])

    def holes(self):
        """The region of the cells with a hole."""
        return Region([cell for cell in self.every_cell() if self[cell] == self.HOLE])

    def contains(self, x, y):
        """Whether the cell is in the picture."""
        return 0 <= x < self.width and 0 <= y < self.height

    def with_sign(self, x, y, sign):
        """A new picture with another sign at one cell."""
        check_cell(self, x, y)
        check_sign(sign)
        rows = list(self._rows)
        rows[y] = rows[y][:x] + sign + rows[y][x + 1:]
        return Picture(rows)

    def __getitem__(self, at):
        x, y = at
        if not self.contains(x, y):
            return self.EDGE
        return self._rows[y][x]

    # Without this, Python would try to iterate with the indexes 0, 1, 2 ..
    def __iter__(self):
        raise TypeError("a picture is not iterated over")

    def __len__(self):
        return len([sign for row in self._rows for sign in row if sign != self.HOLE])

    def __eq__(self, other):
        return isinstance(other, Picture) and self._rows == other._rows

    def __sub__(self, other):
        if self.width != other.width or self.height != other.height:
            raise UnequalSize()
        return Region([cell for cell in self.every_cell() if self[cell] != other[cell]])

    def __str__(self):
        return "\n".join(self._rows)


def check_cell(picture, x, y):
    """Raise OutOfPicture if the cell is not in the picture."""
    if not picture.contains(x, y):
        raise OutOfPicture(x, y)


def check_stone(picture, x, y):
    """Raise an error if there is no stone at the cell."""
    check_cell(picture, x, y)
    if picture[x, y] == Picture.HOLE:
        raise NoStone(x, y)


def stones_in(picture, region):
    """The region of those cells of a region, or of None, that have a stone in the picture."""
    return Region([]) if region is None else picture.stones() & region
