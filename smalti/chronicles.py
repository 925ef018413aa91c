"""Chronicles: rows of photographs of one mosaic."""

from smalti.cells import Region
from smalti.errors import NoPhotograph
from smalti.histories import check_possible
from smalti.inquiries import EITHER, NEW, Inquiry
from smalti.pictures import check_stone
from smalti.sketches import Sketch


class Chronicle:
    """Photographs of one mosaic, numbered from 1, and the stretches of time before them."""

    def __init__(self, book, sketch):
        self._book = book
        self._sketch = sketch.copy()
        # For each stretch its book and an inquiry, which nobody else is given.
        self._books = []
        self._inquiries = []

    def show(self, picture):
        """Add a photograph and return its number."""
        number = len(self._inquiries) + 1
        inquiry = Inquiry(self._book, self._beginning(number), picture)
        check_possible(inquiry.missing)
        self._books.append(self._book)
        self._inquiries.append(inquiry)
        return number

    def drop(self):
        """Remove the last photograph and return it."""
        last = self._last()
        self._books.pop()
        self._inquiries.pop()
        return last

    def change_book(self, book):
        """Use another book for the stretches that are added from now on."""
        self._book = book

    def photograph(self, number):
        """The photograph with the number."""
        if not 1 <= number <= len(self._inquiries):
            raise NoPhotograph(number)
        return self._inquiries[number - 1].picture

    def stretch(self, number):
        """A new inquiry about the stretch with the number."""
        picture = self.photograph(number)
        return Inquiry(self._books[number - 1], self._beginning(number), picture)

    def dates(self, x, y):
        """The ascending list of the stretches in which the stone may have been laid; 0 stands for before."""
        check_stone(self._last(), x, y)
        numbers = []
        for number in range(len(self._inquiries), 0, -1):
            word = self._inquiries[number - 1].verdict(x, y)
            if word in (EITHER, NEW):
                numbers.append(number)
            if word == NEW:
                return numbers[::-1]
        return [0] + numbers[::-1]

    def histories(self):
        """The list of one history for each stretch."""
        return [inquiry.history() for inquiry in self._inquiries]

    def fewest(self):
        """The sum of the least numbers of mendings of all stretches."""
        return sum([inquiry.fewest() for inquiry in self._inquiries])

    def never_mended(self):
        """The region of the cells whose stone is surely from the first picture."""
        if not self._inquiries:
            return Region([])
        stones = self._last().stones().cells()
        return Region([(x, y) for x, y in stones if self.dates(x, y) == [0]])

    def _beginning(self, number):
        """The sketch of the picture with which a stretch begins."""
        return self._sketch if number == 1 else Sketch.of(self.photograph(number - 1))

    def _last(self):
        """The last photograph."""
        # Without any, this asks for number 0, which raises the right error.
        return self.photograph(len(self._inquiries))

    def __len__(self):
        return len(self._inquiries)
