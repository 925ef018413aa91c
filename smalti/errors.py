"""The errors of the program, one class for each kind of failure."""


# No class makes a message of its own: Python shows the arguments of an error, and
# to write out a number of thousands of digits for a message would fail itself.
class SmaltiError(ValueError):
    """The base class of all errors that the program raises."""


class InvalidPicture(SmaltiError):
    """A row of a picture is bad."""

    def __init__(self, line):
        self.line = line


class InvalidRule(SmaltiError):
    """A part of a rule is bad."""

    def __init__(self, part):
        self.part = part


class InvalidBook(SmaltiError):
    """A line of a rule book is bad."""

    def __init__(self, line):
        self.line = line


class InvalidSketch(SmaltiError):
    """A line of a sketch is bad; line 0 stands for its size."""

    def __init__(self, line):
        self.line = line


class InvalidHistory(SmaltiError):
    """A line of a history is bad."""

    def __init__(self, line):
        self.line = line


class InvalidSign(SmaltiError):
    """The sign is neither a stone nor a hole."""

    def __init__(self, sign):
        self.sign = sign


class InvalidSigns(SmaltiError):
    """The signs cannot be the allowed signs of a cell."""

    def __init__(self, signs):
        self.signs = signs


class InvalidLimit(SmaltiError):
    """The value cannot be a limit of cases."""

    def __init__(self, value):
        self.value = value


class OutOfPicture(SmaltiError):
    """The cell is not in the picture."""

    def __init__(self, x, y):
        self.x = x
        self.y = y


class NoStone(SmaltiError):
    """The cell is a hole."""

    def __init__(self, x, y):
        self.x = x
        self.y = y


class NoHole(SmaltiError):
    """The cell has a stone."""

    def __init__(self, x, y):
        self.x = x
        self.y = y


class EmptyCell(SmaltiError):
    """Two sketches have no sign in common at the cell."""

    def __init__(self, x, y):
        self.x = x
        self.y = y


class Opposed(SmaltiError):
    """There is evidence against this at the cell."""

    def __init__(self, x, y):
        self.x = x
        self.y = y


class NotOld(SmaltiError):
    """The stone at the cell is not surely old."""

    def __init__(self, x, y):
        self.x = x
        self.y = y


class NotNew(SmaltiError):
    """The stone at the cell is not surely new."""

    def __init__(self, x, y):
        self.x = x
        self.y = y


class SurelyOld(SmaltiError):
    """The stone at the cell is surely old."""

    def __init__(self, x, y):
        self.x = x
        self.y = y


class SurelyNew(SmaltiError):
    """The stone at the cell is surely new."""

    def __init__(self, x, y):
        self.x = x
        self.y = y


class SurelyAfter(SmaltiError):
    """The cell is surely mended after the other one."""

    def __init__(self, x, y):
        self.x = x
        self.y = y


class NoRule(SmaltiError):
    """The book has no rule with this number."""

    def __init__(self, number):
        self.number = number


class NoPhotograph(SmaltiError):
    """The chronicle has no photograph with this number."""

    def __init__(self, number):
        self.number = number


class WrongStone(SmaltiError):
    """The rule does not lay the stone."""

    def __init__(self, stone):
        self.stone = stone


class RuleClash(SmaltiError):
    """The rule does not fit: its conditions clash at the places."""

    def __init__(self, places):
        self.places = places


class BadDeed(SmaltiError):
    """The deed with this index cannot be done."""

    def __init__(self, index):
        self.index = index


class Impossible(SmaltiError):
    """No history fits: the lacking cells were mended, but could not be."""

    def __init__(self, lacking):
        self.lacking = lacking


class TooManyCases(SmaltiError):
    """There are more cases than the limit allows."""

    def __init__(self, cases):
        self.cases = cases


class UnknownOption(SmaltiError):
    """There is no option with this name."""

    def __init__(self, name):
        self.name = name


class UnequalSize(SmaltiError):
    """The widths or the heights differ."""


class NothingToUndo(SmaltiError):
    """Nothing was done that could be taken back."""


class StillPossible(SmaltiError):
    """The inquiry is possible."""
