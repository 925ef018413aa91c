"""Counting: the least number of mendings, and certificates that there are not fewer."""

from smalti.cells import Region
from smalti.clashes import clash_at, is_valid_clash
from smalti.errors import TooManyCases
from smalti.histories import check_possible
from smalti.peeling import Peeling
from smalti.pictures import stones_in
from smalti.sketches import required_cells

LIMIT = 8

_COUNT = "count"
_CLASH = "clash"
_SPLIT = "split"


def needed_cells(sketch, picture, marked):
    """The region of the cells that must be mended."""
    return required_cells(sketch, picture) | stones_in(picture, marked)


class Demand:
    """The stones of a picture that must be mended, and those that are held. It never changes."""

    def __init__(self, peeling, needed, held):
        self.peeling = peeling
        self.needed = needed
        self.held = held
        self.loose = peeling.loose_cells(held)
        self.lacking = needed - self.loose

    def can_stay(self, cell):
        """Whether all that must be mended can be mended without the cell."""
        return cell not in self.needed and self.needed.within(self.peeling.loose_cells(self.held | Region.of(cell)))


class Search:
    """A search for the fewest mended cells, case by case.

    In each case some cells are kept (never mended) and others are taken (mended). A case that
    does not answer itself is split into two: one cell more is kept, or one more is taken.
    """

    def __init__(self, demand, forced, best):
        self._demand = demand
        self._forced = forced
        self.best = best
        self.rows = []

    def explore(self, kept, taken):
        """Note the row of a case and the rows below it; return the number of its row."""
        number = len(self.rows)
        # The rows below have greater numbers.
        self.rows.append(())
        self.rows[number] = self._row(kept, taken)
        return number

    def _row(self, kept, taken):
        """The row of a case. The row of a clash lacks the clash."""
        must = self._demand.needed | Region(taken)
        if len(must) >= len(self.best):
            return _COUNT, kept, taken
        order = self._demand.peeling.order(self._demand.held | Region(kept))
        lost = (must - Region(order)).cells()
        if lost:
            return _CLASH, kept, taken, lost[0][0], lost[0][1]
        cell = self._deciding_cell(must, order)
        if cell is None:
            self.best = must
            return _COUNT, kept, taken
        first = self.explore(kept + [cell], taken)
        second = self.explore(kept, taken + [cell])
        return _SPLIT, kept, taken, cell[0], cell[1], first, second

    def _deciding_cell(self, must, order):
        """A cell to split a case by, or None if it is enough to mend the cells that must be."""
        for cell in self._forced:
            if cell not in must:
                return cell
        others = self._demand.loose - must
        enough = self._demand.peeling.loose_cells(self._demand.held | others)
        for cell in order:
            if cell in must and cell not in enough:
                return self._most_wanted(cell, must, order)
        return None

    def _most_wanted(self, cell, must, order):
        """The cell that most rules wait for at a cell that has not enough."""
        tally = {}
        for slack, places in self._demand.peeling.answers(cell).values():
            if len([place for place in places if place not in order]) <= slack:
                for x, y in places:
                    if (x, y) in order and (x, y) not in must:
                        tally[-y, -x] = tally.get((-y, -x), 0) + 1
        _, y, x = max([(count, y, x) for (y, x), count in tally.items()])
        return -x, -y


def _demand_of(book, sketch, picture, held, marked):
    """The demand of a fitting history; raise Impossible if there is none."""
    needed = needed_cells(sketch, picture, marked)
    demand = Demand(Peeling(book, picture), needed, stones_in(picture, held))
    check_possible(demand.lacking)
    return demand


def _forced_cells(demand, limit):
    """The list of the cells that each fitting history mends, though nothing says so at once."""
    free = (demand.loose - demand.needed).cells()
    forced = [cell for cell in free if not demand.can_stay(cell)]
    cases = len(free) - len(forced)
    if cases > limit:
        raise TooManyCases(cases)
    return forced


def _best_of(demand, forced):
    """A region of as few cells as possible that are mended by a fitting history."""
    # To mend all loosened cells is always enough.
    search = Search(demand, forced, demand.loose)
    search.explore([], [])
    return search.best


def fewest(book, sketch, picture, *, held=None, marked=None, limit=LIMIT):
    """The least number of mendings of a fitting history."""
    return len(fewest_cells(book, sketch, picture, held=held, marked=marked, limit=limit))


def fewest_cells(book, sketch, picture, *, held=None, marked=None, limit=LIMIT):
    """A region of as few cells as possible that are mended by a fitting history."""
    demand = _demand_of(book, sketch, picture, held, marked)
    return _best_of(demand, _forced_cells(demand, limit))


def bound_of(book, sketch, picture, *, held=None, marked=None, limit=LIMIT):
    """A valid bound for the least number of mendings."""
    demand = _demand_of(book, sketch, picture, held, marked)
    forced = _forced_cells(demand, limit)
    # The rows of a search prove the number only if it is known from their start.
    search = Search(demand, forced, _best_of(demand, forced))
    search.explore([], [])
    return [_bound_row(demand, row) for row in search.rows]


def _bound_row(demand, row):
    """The row of a bound for a row of a search, with lists of its own."""
    word, kept, taken, *rest = row
    if word == _CLASH:
        x, y = rest
        rest = [x, y, clash_at(demand.peeling, (x, y), demand.held | Region(kept))]
    return word, list(kept), list(taken), *rest


def check_bound(book, sketch, picture, number, rows, *, held=None, marked=None):
    """Whether the rows are a valid bound for the number."""
    needed = needed_cells(sketch, picture, marked)
    if not rows or rows[0][1] != [] or rows[0][2] != []:
        return False
    demand = Demand(Peeling(book, picture), needed, stones_in(picture, held))
    return all([_is_valid_row(demand, number, rows, at) for at in range(len(rows))])


def _is_valid_row(demand, number, rows, at):
    """Whether the row with an index is valid in a bound for the number."""
    row = rows[at]
    must = demand.needed | Region(row[2])
    if row[0] == _COUNT:
        return len(must) >= number
    if row[0] == _SPLIT:
        return _is_valid_split(rows, at)
    _, kept, _, x, y, clash = row
    if (x, y) not in must or (x, y) not in clash.region:
        return False
    return is_valid_clash(demand.peeling, clash, demand.held | Region(kept))


def _is_valid_split(rows, at):
    """Whether the row of a split with an index names the two rows that follow from it."""
    _, kept, taken, x, y, first, second = rows[at]
    if not at < first < len(rows) or not at < second < len(rows):
        return False
    keeping, taking = rows[first], rows[second]
    if keeping[1] != kept + [(x, y)] or keeping[2] != taken:
        return False
    return taking[1] == kept and taking[2] == taken + [(x, y)]
