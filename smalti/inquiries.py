"""Inquiries: questions about one present picture, with evidence."""

from smalti.cells import Region
from smalti.clashes import clash_at
from smalti.counting import LIMIT, Demand, bound_of, fewest, fewest_cells, needed_cells
from smalti.errors import InvalidLimit, NotNew, NothingToUndo, Opposed, StillPossible, SurelyNew, UnknownOption
from smalti.histories import check_possible, history_mending
from smalti.ordering import cells_after
from smalti.peeling import Peeling
from smalti.pictures import Picture, check_cell, check_sign, check_stone

MOST_CASES = 12

HOLE = "hole"
OLD = "old"
NEW = "new"
EITHER = "either"

_OPTIONS = ("verdict", "stone", "x", "y", "wave")


class State:
    """A present picture with its evidence, and what follows from them. It never changes."""

    def __init__(self, sketch, peeling, shown, held, marks):
        self.shown = shown
        self.marks = marks
        self.peeling = peeling
        self.demand = Demand(peeling, needed_cells(sketch, shown, marks), held)
        waves = peeling.waves(held)
        self.wave_numbers = {cell: number for number, wave in enumerate(waves, start=1) for cell in wave}

    def word_at(self, cell):
        """The verdict of a cell of the picture, if there is a fitting history."""
        if self.shown[cell] == Picture.HOLE:
            return HOLE
        if cell not in self.demand.loose:
            return OLD
        return EITHER if self.demand.can_stay(cell) else NEW


class Inquiry:
    """A present picture with a book, a sketch, and evidence that can be given and taken back."""

    WORDS = ("hole", "old", "new", "either")

    def __init__(self, book, sketch, picture):
        self._book = book
        self._sketch = sketch.copy()
        self._limit = LIMIT
        # The states before each change, the last change last.
        self._earlier = []
        none = Region([])
        self._state = State(self._sketch, Peeling(book, picture), picture, none, none)

    @property
    def picture(self):
        """The present picture."""
        return self._state.shown

    @property
    def kept(self):
        """The region of the cells that were never mended."""
        return self._state.demand.held

    @property
    def marked(self):
        """The region of the cells that were mended."""
        return self._state.marks

    @property
    def required(self):
        """The region of the cells that every fitting history must mend."""
        return self._state.demand.needed

    @property
    def missing(self):
        """The region of the required cells that cannot have been mended."""
        return self._state.demand.lacking

    @property
    def possible(self):
        """Whether there is a fitting history."""
        return len(self._state.demand.lacking) == 0

    @property
    def limit(self):
        """The greatest number of open cells with which fewest, fewest_cells and bound answer."""
        return self._limit

    @limit.setter
    def limit(self, value):
        if not 0 <= value <= MOST_CASES:
            raise InvalidLimit(value)
        self._limit = value

    def change_limit(self, value):
        """Change the limit, and return the limit before."""
        before = self._limit
        self.limit = value
        return before

    def keep(self, *cells):
        """Note that cells were never mended; return the number of cells whose evidence has changed."""
        self._check_evidence(cells, self.marked)
        return self._note(self.kept | Region(list(cells)), self.marked)

    def mark(self, *cells):
        """Note that cells were mended; return the number of cells whose evidence has changed."""
        self._check_evidence(cells, self.kept)
        return self._note(self.kept, self.marked | Region(list(cells)))

    def release(self, *cells):
        """Remove the evidence of cells; return the number of cells whose evidence has changed."""
        self._check_evidence(cells, Region([]))
        given = Region(list(cells))
        return self._note(self.kept - given, self.marked - given)

    def correct(self, x, y, sign):
        """Change one sign of the present picture; return whether it differs from the sign before."""
        check_cell(self.picture, x, y)
        check_sign(sign)
        if (x, y) in self.kept or (x, y) in self.marked:
            raise Opposed(x, y)
        if self.picture[x, y] == sign:
            return False
        after = self.picture.with_sign(x, y, sign)
        self._go_on(Peeling(self._book, after), after, self.kept, self.marked)
        return True

    def undo(self):
        """Take back the last call that has changed the evidence or the picture."""
        if not self._earlier:
            raise NothingToUndo()
        self._state = self._earlier.pop()

    def suppose(self, ask, *, keep=(), mark=()):
        """The answer of a function that is asked with more evidence, which does not last."""
        state, limit, earlier = self._state, self._limit, list(self._earlier)
        try:
            self.keep(*keep)
            self.mark(*mark)
            return ask(self)
        finally:
            self._state, self._limit, self._earlier = state, limit, earlier

    def verdict(self, x, y):
        """What fitting histories do with the cell: one of WORDS."""
        check_cell(self.picture, x, y)
        self._check_possible()
        return self._state.word_at((x, y))

    def verdicts(self):
        """Yield a tuple (x, y, verdict) for each cell of the picture in reading order."""
        self._check_possible()
        # All at once, so that evidence that is given in between cannot mix the answers.
        rows = [(x, y, self._state.word_at((x, y))) for x, y in self.picture.every_cell()]
        yield from rows

    def cells_with(self, word):
        """The region of the cells with the verdict."""
        return Region([(x, y) for x, y, found in self.verdicts() if found == word])

    def select(self, **wanted):
        """The list of the cells that meet all options: verdict, stone, x, y and wave."""
        unknown = sorted([name for name in wanted if name not in _OPTIONS])
        if unknown:
            raise UnknownOption(unknown[0])
        return [(x, y) for x, y, word in self.verdicts() if self._meets(x, y, word, wanted)]

    def report(self):
        """One line for each cell of the picture: x, y, the sign, the verdict and the wave."""
        return "\n".join([self._line(x, y, word) for x, y, word in self.verdicts()])

    def history(self, *, without=None):
        """A fitting history that mends every loosened cell once; without mending a cell, if it is given."""
        held = self.kept
        if without is not None:
            x, y = without
            self._check_question(x, y)
            if self._state.word_at(without) == NEW:
                raise SurelyNew(x, y)
            held = held | Region.of(without)
        self._check_possible()
        return history_mending(self._book, self._sketch, self.picture, held=held)

    def why_old(self, x, y):
        """A clash that shows that the stone was never mended."""
        self._check_question(x, y)
        return clash_at(self._state.peeling, (x, y), self.kept)

    def why_new(self, x, y):
        """A required cell, and a clash that shows that it was never mended if this stone was not."""
        self._check_question(x, y)
        if self._state.word_at((x, y)) != NEW:
            raise NotNew(x, y)
        return self._lost_cell(self.kept | Region.of((x, y)))

    def why_impossible(self):
        """A missing cell, and a clash that shows that it was never mended."""
        if self.possible:
            raise StillPossible()
        return self._lost_cell(self.kept)

    def surely_after(self, x, y):
        """The region of the cells that are surely mended after the last mending of the cell."""
        self._check_question(x, y)
        return cells_after(self._state.peeling, (x, y), self.kept)

    def beginnings(self, x, y):
        """The text of the signs that the cell may have had in the first picture."""
        check_cell(self.picture, x, y)
        self._check_possible()
        return self._first_signs((x, y))

    def beginnings_count(self):
        """The number of pictures that may have been the first one."""
        self._check_possible()
        count = 1
        for cell in self.picture.every_cell():
            count *= len(self._first_signs(cell))
        return count

    def fewest(self):
        """The least number of mendings of a fitting history."""
        return fewest(self._book, self._sketch, self.picture, held=self.kept, marked=self.marked, limit=self._limit)

    def fewest_cells(self):
        """A region of as few cells as possible that are mended by a fitting history."""
        return fewest_cells(self._book, self._sketch, self.picture, held=self.kept, marked=self.marked,
                            limit=self._limit)

    def bound(self):
        """A valid bound for the least number of mendings."""
        return bound_of(self._book, self._sketch, self.picture, held=self.kept, marked=self.marked,
                        limit=self._limit)

    def _check_possible(self):
        """Raise Impossible if there is no fitting history."""
        check_possible(self.missing)

    def _check_question(self, x, y):
        """Raise an error if no certificate about the cell can be asked for."""
        check_stone(self.picture, x, y)
        self._check_possible()

    def _check_evidence(self, cells, opposed):
        """Raise an error for the first cell that is no stone, or that has the opposed evidence."""
        for x, y in cells:
            check_stone(self.picture, x, y)
            if (x, y) in opposed:
                raise Opposed(x, y)

    def _note(self, held, marks):
        """Go on with other evidence; return the number of cells for which it differs."""
        changed = (held ^ self.kept) | (marks ^ self.marked)
        if changed:
            self._go_on(self._state.peeling, self.picture, held, marks)
        return len(changed)

    def _go_on(self, peeling, shown, held, marks):
        """Go on with another state, which can be taken back."""
        self._earlier.append(self._state)
        self._state = State(self._sketch, peeling, shown, held, marks)

    def _meets(self, x, y, word, wanted):
        """Whether a cell with that verdict meets all options."""
        wave = self._wave_at((x, y))
        found = {"verdict": word, "stone": self.picture[x, y], "x": x, "y": y, "wave": wave}
        return all([found[name] == value for name, value in wanted.items()])

    def _line(self, x, y, word):
        """The line of the report for a cell with that verdict."""
        return f"{x:>2}{y:>3} {self.picture[x, y]} {word:<6}{self._wave_at((x, y)):>3}"

    def _wave_at(self, cell):
        """The number of the wave of a cell, or 0."""
        return self._state.wave_numbers.get(cell, 0)

    def _lost_cell(self, held):
        """A required cell that is not loosened if a region is held, and a clash that shows it."""
        peeling = self._state.peeling
        x, y = (self.required - peeling.loose_cells(held)).cells()[0]
        return x, y, clash_at(peeling, (x, y), held)

    def _first_signs(self, cell):
        """The text of the signs of a cell in the first pictures of all fitting histories."""
        if self.picture[cell] == Picture.HOLE or cell in self._state.demand.loose:
            return self._sketch[cell]
        return self.picture[cell]
