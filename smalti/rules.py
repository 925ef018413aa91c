"""Rules: when a stone may be laid into a hole, and how a rule is written."""

from smalti.errors import InvalidRule, WrongStone
from smalti.pictures import STONES, Picture, are_different_signs, check_cell, in_ascii_order, is_stone

REACH = 3
MOST_CONDITIONS = 8

_ALL = "all"
_SAME = "same"
_DIGITS = "0123456789"


def _is_place(dx, dy):
    """Whether a condition can look so far away from the hole."""
    return -REACH <= dx <= REACH and -REACH <= dy <= REACH and (dx != 0 or dy != 0)


def _check_conditions(conditions):
    """Raise InvalidRule for the first bad condition."""
    earlier = set()
    for part, (dx, dy, signs) in enumerate(conditions, start=1):
        if part > MOST_CONDITIONS or not _is_place(dx, dy) or (dx, dy) in earlier:
            raise InvalidRule(part)
        if not are_different_signs(signs, Picture.EDGE):
            raise InvalidRule(part)
        earlier.add((dx, dy))


def _check_need(need, count):
    """Raise InvalidRule if so many of that number of conditions cannot be needed."""
    if not 0 <= need <= count:
        raise InvalidRule(0)


def _in_order(conditions):
    """The conditions from top to bottom and left to right, their signs as in ASCII."""
    flipped = sorted([(dy, dx, in_ascii_order(signs)) for dx, dy, signs in conditions])
    return [(dx, dy, signs) for dy, dx, signs in flipped]


def _clashes_at(picture, position, signs, loose):
    """Whether a condition that looks at the position clashes."""
    sign = picture[position]
    if sign == Picture.HOLE:
        return False
    # A loose position outside of the picture stays the edge.
    if loose is not None and sign != Picture.EDGE and position in loose:
        return False
    return sign not in signs


class Rule:
    """A rule that lays one stone if none of its conditions clashes. It never changes."""

    KIND = "all"

    def __init__(self, stone, conditions):
        if not is_stone(stone):
            raise InvalidRule(0)
        _check_conditions(conditions)
        self.stone = stone
        self._conditions = _in_order(conditions)

    @property
    def slack(self):
        """The number of conditions that may clash."""
        return 0

    def lays(self, stone):
        """Whether the rule lays the stone."""
        return stone == self.stone

    def conditions(self, stone):
        """The list of the conditions for laying the stone."""
        if not self.lays(stone):
            raise WrongStone(stone)
        return list(self._conditions)

    def clashes(self, picture, x, y, stone, *, loose=None):
        """The list of the positions of the clashing conditions in reading order."""
        check_cell(picture, x, y)
        looks = [((x + dx, y + dy), signs) for dx, dy, signs in self.conditions(stone)]
        return [place for place, signs in looks if _clashes_at(picture, place, signs, loose)]

    def fits(self, picture, x, y, stone, *, loose=None):
        """Whether the rule may lay the stone at the cell."""
        check_cell(picture, x, y)
        if not self.lays(stone):
            return False
        return len(self.clashes(picture, x, y, stone, loose=loose)) <= self.slack

    def written(self):
        """The line that read_rule takes."""
        return " ".join([self.stone, _ALL] + self._condition_words())

    def _condition_words(self):
        return [f"{dx},{dy}:{signs}" for dx, dy, signs in self._conditions]

    def __len__(self):
        return len(self._conditions)


class CountRule(Rule):
    """A rule that lays one stone if enough of its conditions do not clash."""

    KIND = "count"

    def __init__(self, stone, conditions, need):
        super().__init__(stone, conditions)
        _check_need(need, len(conditions))
        self.need = need

    @property
    def slack(self):
        """The number of conditions that may clash."""
        return len(self._conditions) - self.need

    def written(self):
        """The line that read_rule takes."""
        return " ".join([self.stone, str(self.need)] + self._condition_words())


class SameRule(CountRule):
    """A rule that lays every stone if enough of its places do not show another one."""

    KIND = "same"

    def __init__(self, places, need):
        # The constructors above would ask for one letter as the stone.
        conditions = [(dx, dy, STONES) for dx, dy in places]
        _check_conditions(conditions)
        _check_need(need, len(conditions))
        self.stone = ""
        self.need = need
        self._conditions = _in_order(conditions)

    def lays(self, stone):
        """Whether the rule lays the stone."""
        return is_stone(stone)

    def conditions(self, stone):
        """The list of the conditions for laying the stone."""
        if not self.lays(stone):
            raise WrongStone(stone)
        return [(dx, dy, stone) for dx, dy, _ in self._conditions]

    def written(self):
        """The line that read_rule takes."""
        words = [f"{dx},{dy}" for dx, dy, _ in self._conditions]
        return " ".join([_SAME, str(self.need)] + words)


def _is_digit(text):
    """Whether a text is one digit from 0 to 9."""
    return len(text) == 1 and text in _DIGITS


def _is_number(text):
    """Whether a text is one digit, or a minus sign and one digit that is not 0."""
    return text != "-0" and _is_digit(text.removeprefix("-"))


def _read_place(word, part):
    """The place that a word of a rule with that number names."""
    dx, _, dy = word.partition(",")
    if not _is_number(dx) or not _is_number(dy):
        raise InvalidRule(part)
    return int(dx), int(dy)


def _read_condition(word, part):
    """The condition that a word of a rule with that number names."""
    place, _, signs = word.partition(":")
    if signs == "":
        raise InvalidRule(part)
    dx, dy = _read_place(place, part)
    return dx, dy, signs


def read_rule(line):
    """The rule that is written on the line."""
    words = line.split(" ")
    if len(words) < 2:
        raise InvalidRule(0)
    first, second, *rest = words
    if first == _SAME and _is_digit(second):
        return SameRule([_read_place(word, part) for part, word in enumerate(rest, start=1)], int(second))
    if not is_stone(first) or not (second == _ALL or _is_digit(second)):
        raise InvalidRule(0)
    conditions = [_read_condition(word, part) for part, word in enumerate(rest, start=1)]
    if second == _ALL:
        return Rule(first, conditions)
    return CountRule(first, conditions, int(second))
