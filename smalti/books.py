"""Rule books: numbered lists of rules."""

from smalti.errors import InvalidBook, InvalidRule, NoRule
from smalti.pictures import check_cell
from smalti.rules import read_rule

MOST_RULES = 20


def _read_line(text, line):
    """The rule on the line of a book that has that number."""
    try:
        return read_rule(text)
    except InvalidRule:
        raise InvalidBook(line) from None


class Book:
    """A list of rules, numbered from 0. It never changes."""

    def __init__(self, rules):
        if len(rules) > MOST_RULES:
            raise InvalidBook(MOST_RULES + 1)
        self._rules = list(rules)

    @classmethod
    def read(cls, text):
        """The book with one rule from each line; the empty text has no rule."""
        lines = text.split("\n") if text != "" else []
        rules = [_read_line(line, number) for number, line in enumerate(lines[:MOST_RULES], start=1)]
        if len(lines) > MOST_RULES:
            raise InvalidBook(MOST_RULES + 1)
        return cls(rules)

    def text(self):
        """The text that Book.read takes."""
        return "\n".join([rule.written() for rule in self._rules])

    def rule(self, number):
        """The rule with the number."""
        if not 0 <= number < len(self._rules):
            raise NoRule(number)
        return self._rules[number]

    def fitting(self, picture, x, y, stone, *, loose=None):
        """The ascending list of the numbers of the rules that fit."""
        # A book without rules would ask no rule whether the cell is in the picture.
        check_cell(picture, x, y)
        answers = [rule.fits(picture, x, y, stone, loose=loose) for rule in self._rules]
        return [number for number, fits in enumerate(answers) if fits]

    def __len__(self):
        return len(self._rules)

    def __add__(self, other):
        return Book(self._rules + other._rules)
