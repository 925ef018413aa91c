"""smalti/ordering.py: what was surely mended after what (points 2, 40 and 41)."""

import unittest

from smalti.books import Book
from smalti.cells import Region
from smalti.errors import Impossible, NoStone, OutOfPicture, SurelyAfter, SurelyOld, UnequalSize
from smalti.histories import History, check_history
from smalti.ordering import history_not_after, surely_after
from smalti.pictures import Picture
from smalti.rules import Rule, SameRule
from smalti.sketches import Sketch, required_cells
from tests import oracle
from tests.helper import FAR, HUGE, SmaltiTest

BOOK = Book.read("d all 1,0:c\nc all -1,0:b")


class Examples(SmaltiTest):
    def test_example_of_the_document(self):
        self.assertEqual(surely_after(BOOK, Picture.read("adc"), 2, 0).cells(), [(1, 0)])


class SurelyLater(SmaltiTest):
    def test_kind(self):
        self.assertIsInstance(surely_after(BOOK, Picture.read("adc"), 2, 0), Region)

    def test_the_first_wave(self):
        self.assertEqual(surely_after(BOOK, Picture.read("adc"), 1, 0), Region([]))

    def test_a_chain(self):
        book = Book.read("a all\nb all -1,0:z\nc all -1,0:z\nd all -1,0:z")
        for x in range(4):
            after = surely_after(book, Picture.read("abcd"), x, 0)
            self.assertEqual(after, Region([(before, 0) for before in range(x)]))

    def test_one_of_two_is_enough(self):
        web = Book.read("a all\nc all\nd all\ne 1 -1,0:z 1,0:z\nf all -1,0:z")
        picture = Picture.read("cedabf.")
        self.assertEqual(surely_after(web, picture, 1, 0), Region([]))
        self.assertEqual(surely_after(web, picture, 1, 0, held=Region.of((0, 0))), Region.of((2, 0)))
        self.assertEqual(surely_after(web, picture, 1, 0, held=Region.of((2, 0))), Region.of((0, 0)))
        self.assert_error(SurelyOld(1, 0), surely_after, web, picture, 1, 0, held=Region.of((0, 0), (2, 0)))
        self.assert_error(SurelyOld(5, 0), surely_after, web, picture, 5, 0)

    def test_the_cell_itself_is_not_in_the_region(self):
        for x, y in [(0, 0), (2, 0)]:
            self.assertNotIn((x, y), surely_after(Book.read("same 0"), Picture.read("abc"), x, y))

    def test_held_none_and_held_cells_without_effect(self):
        picture = Picture.read("adc.")
        for held in [None, Region([]), Region.of((0, 0)), Region.of((3, 0), (-1, 0), (4, 0), (HUGE, HUGE))]:
            self.assertEqual(surely_after(BOOK, picture, 2, 0, held=held), Region.of((1, 0)))

    def test_surely_old(self):
        picture = Picture.read("adc")
        self.assert_error(SurelyOld(0, 0), surely_after, BOOK, picture, 0, 0)
        self.assert_error(SurelyOld(2, 0), surely_after, BOOK, picture, 2, 0, held=Region.of((2, 0)))
        self.assert_error(SurelyOld(2, 0), surely_after, BOOK, picture, 2, 0, held=Region.of((1, 0)))
        self.assert_error(SurelyOld(1, 0), surely_after, Book([]), picture, 1, 0)

    def test_no_stone(self):
        for x, y in [(0, 1), (2, 1)]:
            for held in [None, Region.of((x, y))]:
                self.assert_error(NoStone(x, y), surely_after, BOOK, Picture.read("adc\n..."), x, y, held=held)

    def test_out_of_picture(self):
        for x, y in FAR:
            for held in [None, Region.of((x, y))]:
                self.assert_error(OutOfPicture(x, y), surely_after, BOOK, Picture.read("adc\n..."), x, y, held=held)

    def test_with_many_cases(self):
        for book, _, picture, held, _ in oracle.random_cases(40, 200):
            loose = oracle.loose(book, picture, held)
            for x, y in loose.cells():
                self.assertEqual(surely_after(book, picture, x, y, held=held).cells(), later(book, picture, (x, y), held))
            for x, y in (picture.stones() - loose).cells():
                self.assert_error(SurelyOld(x, y), surely_after, book, picture, x, y, held=held)

    def test_the_largest_picture_and_book(self):
        book = Book.read("a all -1,0:# 0,-1:#\nb all 1,0:# 0,-1:#" + "\na all -1,0:# 0,-1:# -2,0:# -3,0:#" * 18)
        picture = Picture(["aaaaaaaa", "bbbbbbbb"] * 4)
        self.assertEqual(len(surely_after(book, picture, 0, 7)), 63)
        self.assertEqual(surely_after(book, picture, 0, 0), Region([]))


def later(book, picture, cell, held):
    """The cells without which the cell is not loosened, in reading order."""
    others = [other for other in oracle.loose(book, picture, held).cells() if other != cell]
    still = held or Region([])
    return [other for other in others if cell not in oracle.loose(book, picture, still | Region.of(other))]


class NotAfter(SmaltiTest):
    def mended(self, book, sketch, picture, cell, other, **more):
        """A history with all that points 37 and 41 say of it."""
        loose = oracle.loose(book, picture, **more)
        history = history_not_after(book, sketch, picture, cell, other, **more)
        self.assertIsInstance(history, History)
        self.assertIs(check_history(book, sketch, picture, history), True)
        mended = [deed[1:3] for deed in history.deeds if deed[0] == "mend"]
        self.assertEqual(sorted(mended), sorted(loose.cells()))
        fallen = [deed for deed in history.deeds if deed[0] == "fall"]
        self.assertEqual(len(fallen), len(set(fallen)))
        for at in picture.every_cell():
            free = at in loose or picture[at] == "."
            self.assertEqual(history.first[at], min(sketch[at]) if free else picture[at])
        if other in mended and other != cell:
            self.assertLess(mended.index(other), mended.index(cell))
        return mended

    def test_both_orders(self):
        book, sketch, picture = Book.read("same 0"), Sketch.read("ba * *"), Picture.read("abc")
        for cell in picture.every_cell():
            for other in picture.every_cell():
                self.assertEqual(len(self.mended(book, sketch, picture, cell, other)), 3)

    def test_the_other_way_round(self):
        picture = Picture.read("adc")
        self.assertEqual(self.mended(BOOK, Sketch(3, 1), picture, (1, 0), (2, 0)), [(2, 0), (1, 0)])
        self.assert_error(SurelyAfter(1, 0), history_not_after, BOOK, Sketch(3, 1), picture, (2, 0), (1, 0))

    def test_one_of_two_is_enough(self):
        book, sketch, picture = Book.read("c all\nd all\ne 1 -1,0:z 1,0:z"), Sketch(4, 1), Picture.read("ced.")
        for other in [(0, 0), (2, 0)]:
            self.mended(book, sketch, picture, (1, 0), other)
        held = Region.of((0, 0))
        self.assert_error(SurelyAfter(2, 0), history_not_after, book, sketch, picture, (1, 0), (2, 0), held=held)
        self.mended(book, sketch, picture, (1, 0), (0, 0), held=held)

    def test_other_cells_that_are_not_mended(self):
        picture, sketch = Picture.read("adc.\n...."), Sketch(4, 2)
        for other in [(0, 0), (3, 0), (0, 1), (-1, 0), (4, 0), (2, 2), (HUGE, 0), (0, -HUGE)]:
            for held in [None, Region.of(other)]:
                self.mended(BOOK, sketch, picture, (2, 0), other, held=held)

    def test_held_other(self):
        self.assertEqual(self.mended(BOOK, Sketch(3, 1), Picture.read("adc"), (1, 0), (2, 0), held=Region.of((2, 0))),
                         [(1, 0)])

    def test_the_cell_itself(self):
        for cell in [(1, 0), (2, 0)]:
            self.assertEqual(self.mended(BOOK, Sketch(3, 1), Picture.read("adc"), cell, cell), [(2, 0), (1, 0)])

    def test_the_order_of_the_errors(self):
        def refused(error, sketch, cell, other, **more):
            self.assert_error(error, history_not_after, BOOK, sketch, picture, cell, other, **more)

        picture = Picture.read("adc.\na...")
        small, good, bad = Sketch(4, 1), Sketch(4, 2), Sketch.read("b * * *\nb * * *")
        for cell in [(2, 0), (9, 9), (3, 0), (0, 0)]:
            refused(UnequalSize(), small, cell, (1, 0))
        for sketch in [good, bad]:
            for x, y in [(4, 0), (0, 2), (-1, 0), (HUGE, -HUGE)]:
                for other in [(1, 0), (x, y)]:
                    refused(OutOfPicture(x, y), sketch, (x, y), other)
            refused(NoStone(3, 0), sketch, (3, 0), (1, 0))
            refused(NoStone(1, 1), sketch, (1, 1), (1, 1))
            refused(SurelyOld(0, 1), sketch, (0, 1), (1, 0))
            refused(SurelyOld(2, 0), sketch, (2, 0), (1, 0), held=Region.of((1, 0)))
        refused(Impossible([(0, 0), (0, 1)]), bad, (2, 0), (1, 0))
        refused(Impossible([(0, 0), (0, 1)]), bad, (2, 0), (HUGE, 0))
        refused(SurelyAfter(1, 0), good, (2, 0), (1, 0))

    def test_impossible_with_held_cells(self):
        sketch = Sketch.read("* * b")
        self.assert_error(Impossible([(2, 0)]), history_not_after, BOOK, sketch, Picture.read("adc"), (1, 0), (2, 0),
                          held=Region.of((2, 0)))

    def test_with_many_cases(self):
        counts = {"good": 0, "after": 0, "impossible": 0}
        for book, sketch, picture, held, _ in oracle.random_cases(41, 150):
            loose = oracle.loose(book, picture, held)
            lacking = (required_cells(sketch, picture) - loose).cells()
            for cell in loose.cells():
                after = later(book, picture, cell, held)
                for other in picture.every_cell() + [(-1, 0), (picture.width, 0)]:
                    counts[self.compare(book, sketch, picture, held, lacking, after, cell, other)] += 1
        self.assertGreater(min(counts.values()), 5)

    def compare(self, book, sketch, picture, held, lacking, after, cell, other):
        asked = (book, sketch, picture, cell, other)
        if lacking:
            self.assert_error(Impossible(lacking), history_not_after, *asked, held=held)
            return "impossible"
        if other in after:
            self.assert_error(SurelyAfter(*other), history_not_after, *asked, held=held)
            return "after"
        self.mended(*asked, held=held)
        return "good"

    def test_the_largest_picture_and_book(self):
        eight = [(dx, dy) for dx in (-1, 0, 1) for dy in (-1, 0, 1) if (dx, dy) != (0, 0)]
        book = Book([SameRule(eight, 7)] * 19 + [Rule("a", [(0, -1, "#"), (-1, 0, "#")])])
        picture = Picture(["aaaaaaaa", "aabaaaaa"] * 4)
        cells = oracle.loose(book, picture).cells()
        for other in cells[::9]:
            after = surely_after(book, picture, *cells[-1])
            if other not in after:
                self.mended(book, Sketch(8, 8), picture, cells[-1], other)


if __name__ == "__main__":
    unittest.main()
