"""Clashes: certificates that some cells were never mended."""

from smalti.cells import Region
from smalti.errors import NotOld
from smalti.peeling import Peeling
from smalti.pictures import check_stone, stones_in


class Clash:
    """A region of cells, and for its stones the places that refuse every rule."""

    def __init__(self, region, refusals):
        self.region = region
        self.refusals = [(x, y, number, list(places)) for x, y, number, places in refusals]


def clash_of(book, picture, x, y, *, held=None):
    """A valid clash whose region contains the cell."""
    check_stone(picture, x, y)
    return clash_at(Peeling(book, picture), (x, y), stones_in(picture, held))


def clash_at(peeling, cell, held):
    """A valid clash whose region contains the cell of a stone."""
    loose = peeling.loose_cells(held)
    if cell in loose:
        raise NotOld(cell[0], cell[1])
    region = {cell: True}
    waiting = [cell]
    refusals = []
    while waiting:
        x, y = waiting.pop()
        answers = {} if (x, y) in held else peeling.answers((x, y))
        for number, (slack, places) in answers.items():
            lasting = [place for place in places if place not in loose]
            # Places that bring no new stone into the region keep the clash small.
            free = [place for place in lasting if place in region or not peeling.has_stone(place)]
            chosen = (free + [place for place in lasting if place not in free])[:slack + 1]
            refusals.append((x, y, number, chosen))
            for place in chosen:
                if place not in free:
                    region[place] = True
                    waiting.append(place)
    return Clash(Region(list(region)), refusals)


def check_clash(book, picture, clash, *, held=None):
    """Whether the clash is valid."""
    return is_valid_clash(Peeling(book, picture), clash, stones_in(picture, held))


def is_valid_clash(peeling, clash, held):
    """Whether the clash is valid for what the peeling shows."""
    cells = clash.region.cells()
    if not all([peeling.has_stone(cell) for cell in cells]):
        return False
    refused = {(x, y, number): True for x, y, number, _ in clash.refusals}
    asked = [(x, y, number) for x, y in cells if (x, y) not in held for number in peeling.answers((x, y))]
    if not all([question in refused for question in asked]):
        return False
    return all([_is_right(peeling, clash.region, refusal) for refusal in clash.refusals])


def _is_right(peeling, region, refusal):
    """Whether a refusal shows that its rule never fits at its cell."""
    x, y, number, places = refusal
    if (x, y) not in region or number not in peeling.answers((x, y)):
        return False
    slack, clashing = peeling.answers((x, y))[number]
    if len(places) <= slack or len(set(places)) < len(places):
        return False
    return all([place in clashing and (place in region or not peeling.has_stone(place)) for place in places])
