"""Regions: sets of cells, listed in reading order."""

_GROUP = 10 ** 18
_GROUP_DIGITS = 18


def decimal(number):
    """The decimal text of an integer of any size."""
    # str() refuses a number of more than 4300 digits, so it gets small groups only.
    rest = abs(number)
    groups = []
    while rest >= _GROUP:
        rest, group = divmod(rest, _GROUP)
        groups.append(str(group).zfill(_GROUP_DIGITS))
    groups.append(str(rest))
    digits = "".join(groups[::-1])
    return f"-{digits}" if number < 0 else digits


class Region:
    """A set of cells. It never changes."""

    def __init__(self, cells):
        flipped = sorted({(y, x) for x, y in cells})
        # A dict keeps the order of its keys: the cells stay in reading order.
        self._members = {(x, y): True for y, x in flipped}

    @staticmethod
    def of(*cells):
        """The region of the cells that are passed."""
        return Region(list(cells))

    def cells(self):
        """The list of the cells in reading order."""
        return list(self._members)

    def within(self, other):
        """Whether each cell of this region is in the other one."""
        return all([cell in other for cell in self._members])

    def __or__(self, other):
        return Region(self.cells() + other.cells())

    def __and__(self, other):
        return Region([cell for cell in self._members if cell in other])

    def __sub__(self, other):
        return Region([cell for cell in self._members if cell not in other])

    def __xor__(self, other):
        return (self - other) | (other - self)

    def __eq__(self, other):
        return isinstance(other, Region) and self._members == other._members

    def __contains__(self, cell):
        return cell in self._members

    def __len__(self):
        return len(self._members)

    def __bool__(self):
        return bool(self._members)

    def __str__(self):
        if not self._members:
            return "-"
        return " ".join([f"{decimal(x)},{decimal(y)}" for x, y in self._members])
