"""Plain answers to compare with: slow, straight from the words of the document."""

import heapq
import itertools
import random

from smalti.books import Book
from smalti.cells import Region
from smalti.pictures import Picture
from smalti.rules import CountRule, Rule, SameRule
from smalti.sketches import Sketch, required_cells

NONE = Region([])
PLACES = [(dx, dy) for dx in range(-2, 3) for dy in range(-2, 3) if (dx, dy) != (0, 0)]


def waves(book, picture, held=None):
    """The waves of point 33, found by asking the book again and again."""
    held = held or NONE
    earlier, found = [], []
    while True:
        left = [cell for cell in picture.stones().cells() if cell not in held and cell not in earlier]
        wave = [(x, y) for x, y in left if book.fitting(picture, x, y, picture[x, y], loose=Region(earlier))]
        if not wave:
            return found
        found.append(wave)
        earlier.extend(wave)


def loose(book, picture, held=None):
    """The region of the loosened cells."""
    return Region([cell for wave in waves(book, picture, held) for cell in wave])


def needed(sketch, picture, marked=None):
    """The needed cells of point 42."""
    return required_cells(sketch, picture) | (picture.stones() & (marked or NONE))


def open_cells(book, sketch, picture, held=None, marked=None):
    """The open cells of point 44."""
    held, must = held or NONE, needed(sketch, picture, marked)
    cells = (loose(book, picture, held) - must).cells()
    return [cell for cell in cells if must.within(loose(book, picture, held | Region.of(cell)))]


def fewest(book, sketch, picture, held=None, marked=None):
    """The least number of cells that can be mended with no others, tried one after the other."""
    held = held or NONE
    free = open_cells(book, sketch, picture, held, marked)
    always = loose(book, picture, held) - Region(free)
    for count in range(len(free) + 1):
        for chosen in itertools.combinations(free, count):
            mended = always | Region(list(chosen))
            if loose(book, picture, held | (picture.stones() - mended)) == mended:
                return len(mended)
    raise AssertionError("to mend all of them is always possible")


def random_rule(dice, letters):
    """A rule with at most four conditions."""
    places = dice.sample(PLACES, dice.choice([0, 1, 1, 2, 2, 3, 4]))
    need = dice.randint(0, len(places))
    if dice.random() < 0.2:
        return SameRule(places, need)
    signs = letters + "#"
    conditions = [(dx, dy, "".join(dice.sample(signs, dice.randint(1, 2)))) for dx, dy in places]
    if dice.random() < 0.5:
        return Rule(dice.choice(letters), conditions)
    return CountRule(dice.choice(letters), conditions, need)


def random_region(dice, picture):
    """None, or a region of cells in the picture and beside it."""
    count = dice.choice([-1, 0, 2, 4])
    if count < 0:
        return None
    cells = [(dice.randint(-1, picture.width), dice.randint(-1, picture.height)) for _ in range(count)]
    return Region(cells)


def random_cases(seed, count):
    """Yield tuples (book, sketch, picture, held, marked), the same ones for the same seed."""
    dice = random.Random(seed)
    for _ in range(count):
        letters = dice.choice(["ab", "abc", "abcd"])
        width, height = dice.randint(1, 4), dice.randint(1, 3)
        rows = ["".join(dice.choice(letters * 3 + ".") for _ in range(width)) for _ in range(height)]
        picture = Picture(rows)
        book = Book([random_rule(dice, letters) for _ in range(dice.randint(0, 6))])
        sketch = Sketch(width, height)
        for x, y in picture.every_cell():
            if dice.random() < 0.4:
                sketch[x, y] = "".join(dice.sample(letters + ".", dice.randint(1, 3)))
        yield book, sketch, picture, random_region(dice, picture), random_region(dice, picture)


def small_cases(seed, count):
    """Yield tuples (book, sketch, picture, letters) that are small enough for a World."""
    dice = random.Random(seed)
    for _ in range(count):
        letters, width, height = dice.choice([("ab", 4, 1), ("ab", 2, 2), ("abc", 3, 1), ("abc", 1, 3), ("abcd", 2, 1)])
        picture = Picture(["".join(dice.choice(letters * 3 + ".") for _ in range(width)) for _ in range(height)])
        book = Book([random_rule(dice, letters) for _ in range(dice.randint(0, 5))])
        sketch = Sketch(width, height)
        for x, y in picture.every_cell():
            sketch[x, y] = "".join(dice.sample(letters + ".", dice.randint(1, len(letters) + 1)))
        yield book, sketch, picture, letters


class World:
    """All that deeds can lead to, found by doing them.

    A state is a text of the signs in reading order with the set of the cells that were mended.
    """

    def __init__(self, book, sketch, picture, letters):
        self.cells = picture.every_cell()
        self.width = picture.width
        self.book = book
        self.letters = letters
        self.signs = "".join(picture.lines())
        self.starts = [("".join(signs), frozenset()) for signs in itertools.product(*[sketch[at] for at in self.cells])]
        self.next_signs = {}
        self.earlier = {state: [] for state in self.starts}
        self.mendings = {}
        self.walk()

    def walk(self):
        """Find every state, the states from which it comes, and its least number of mendings."""
        queue = [(0, at, state) for at, state in enumerate(self.starts)]
        tickets = itertools.count(len(queue))
        while queue:
            count, _, state = heapq.heappop(queue)
            if state in self.mendings:
                continue
            self.mendings[state] = count
            for signs, mended in self.steps(state[0]):
                after = (signs, state[1] | mended)
                self.earlier.setdefault(after, []).append(state)
                heapq.heappush(queue, (count + len(mended), next(tickets), after))

    def steps(self, signs):
        """The texts that one deed leads to, each with the set of the cells that it mends."""
        if signs not in self.next_signs:
            picture = Picture([signs[at:at + self.width] for at in range(0, len(signs), self.width)])
            self.next_signs[signs] = [(signs[:at] + stone + signs[at + 1:], mended)
                                      for at, cell in enumerate(self.cells)
                                      for stone, mended in self.deeds(picture, cell)]
        return self.next_signs[signs]

    def deeds(self, picture, cell):
        if picture[cell] != ".":
            return [(".", frozenset())]
        return [(stone, frozenset([cell])) for stone in self.letters if self.book.fitting(picture, *cell, stone)]

    def endings(self, held, marked):
        """The last states of all fitting histories."""
        return [(signs, mended) for signs, mended in self.mendings
                if signs == self.signs and not mended & set(held) and mended >= set(marked)]

    def beginnings(self, held, marked):
        """The first pictures of all fitting histories, as texts."""
        waiting = self.endings(held, marked)
        found = set(waiting)
        while waiting:
            for state in self.earlier[waiting.pop()]:
                if state not in found:
                    found.add(state)
                    waiting.append(state)
        return [signs for signs, mended in self.starts if (signs, mended) in found]
