"""The order of mendings: what was surely mended after what."""

from smalti.cells import Region
from smalti.errors import SurelyAfter, SurelyOld
from smalti.histories import check_possible, history_in_order
from smalti.peeling import Peeling
from smalti.pictures import check_stone, stones_in
from smalti.sketches import required_cells


def surely_after(book, picture, x, y, *, held=None):
    """The region of the cells that are surely mended after the last mending of the cell."""
    check_stone(picture, x, y)
    return cells_after(Peeling(book, picture), (x, y), stones_in(picture, held))


def cells_after(peeling, cell, held):
    """The region of the cells that are surely mended after the last mending of the cell of a stone."""
    loose = peeling.loose_cells(held)
    if cell not in loose:
        raise SurelyOld(cell[0], cell[1])
    others = (loose - Region.of(cell)).cells()
    return Region([other for other in others if cell not in peeling.loose_cells(held | Region.of(other))])


def history_not_after(book, sketch, picture, cell, other, *, held=None):
    """A history that mends every loosened cell once, and the other cell not after the cell."""
    needed = required_cells(sketch, picture)
    check_stone(picture, cell[0], cell[1])
    peeling = Peeling(book, picture)
    still = stones_in(picture, held)
    after = cells_after(peeling, cell, still)
    order = peeling.order(still)
    check_possible(needed - Region(order))
    if other in after:
        raise SurelyAfter(other[0], other[1])
    # What can be loosened without the other cell comes first here, so it is mended last.
    without = peeling.order(still | Region.of(other))
    return history_in_order(peeling, sketch, picture, without + [late for late in order if late not in without])
