"""Peeling: a picture looked at backwards, wave by wave."""

from smalti.cells import Region
from smalti.pictures import check_stone, stones_in


def _answers_at(book, picture, cell):
    """For each number of a rule that lays the stone at the cell: its slack and where it clashes."""
    x, y = cell
    stone = picture[cell]
    rules = [(number, book.rule(number)) for number in range(len(book))]
    return {number: (rule.slack, rule.clashes(picture, x, y, stone)) for number, rule in rules if rule.lays(stone)}


class Peeling:
    """How the rules of a book clash at each stone of a picture. It never changes.

    The rules are asked only once, so that many held regions can be tried quickly. Every held
    region that is passed to its methods is a Region.
    """

    def __init__(self, book, picture):
        self._answers = {cell: _answers_at(book, picture, cell) for cell in picture.stones().cells()}
        # An opening is a rule at a stone. It waits until enough of its clashing stones are loose.
        self._opened = []
        self._lacking = []
        self._waiting = {cell: [] for cell in self._answers}
        for cell, answers in self._answers.items():
            for slack, places in answers.values():
                for place in places:
                    if place in self._waiting:
                        self._waiting[place].append(len(self._opened))
                self._opened.append(cell)
                self._lacking.append(len(places) - slack)
        self._at_once = [cell for cell, lacking in zip(self._opened, self._lacking) if lacking <= 0]

    def has_stone(self, cell):
        """Whether the picture has a stone at the cell."""
        return cell in self._answers

    def answers(self, cell):
        """For each number of a rule that lays the stone at the cell: its slack and where it clashes."""
        return self._answers[cell]

    def waves(self, held):
        """The list of the waves, each a list of cells in reading order."""
        lacking = list(self._lacking)
        done = {cell: True for cell in held.cells()}
        waves = []
        wave = Region([cell for cell in self._at_once if cell not in done]).cells()
        while wave:
            waves.append(wave)
            opened = []
            for cell in wave:
                done[cell] = True
                for opening in self._waiting[cell]:
                    lacking[opening] -= 1
                    if lacking[opening] == 0:
                        opened.append(self._opened[opening])
            wave = Region([cell for cell in opened if cell not in done]).cells()
        return waves

    def order(self, held):
        """The list of the loosened cells, those of earlier waves first."""
        return [cell for wave in self.waves(held) for cell in wave]

    def loose_cells(self, held):
        """The region of the loosened cells."""
        return Region(self.order(held))

    def least_rule(self, cell, loose):
        """The least number of a rule that fits at the stone if the cells of a list are holes, or None."""
        for number, (slack, places) in self._answers[cell].items():
            if len([place for place in places if place not in loose]) <= slack:
                return number
        return None


def loose_waves(book, picture, *, held=None):
    """Yield the waves in order, each as a list of cells in reading order."""
    waves = Peeling(book, picture).waves(stones_in(picture, held))
    yield from waves


def loosened(book, picture, *, held=None):
    """The region of the loosened cells."""
    return Peeling(book, picture).loose_cells(stones_in(picture, held))


def wave_of(book, picture, x, y, *, held=None):
    """The number of the wave of a cell, counted from 1, or 0 if it is not loosened."""
    check_stone(picture, x, y)
    waves = Peeling(book, picture).waves(stones_in(picture, held))
    for number, wave in enumerate(waves, start=1):
        if (x, y) in wave:
            return number
    return 0


def opening_rule(book, picture, x, y, *, held=None):
    """The least number of a rule that fits with all earlier waves as holes, or None if the cell is not loosened."""
    check_stone(picture, x, y)
    peeling = Peeling(book, picture)
    earlier = []
    for wave in peeling.waves(stones_in(picture, held)):
        if (x, y) in wave:
            return peeling.least_rule((x, y), earlier)
        earlier = earlier + wave
    return None
