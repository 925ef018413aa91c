"""smalti/counting.py: the fewest mendings and bounds (points 2 and 42 to 46)."""

import random
import time
import unittest

from smalti import counting
from smalti.books import Book
from smalti.cells import Region
from smalti.clashes import Clash, clash_of
from smalti.counting import bound_of, check_bound, fewest, fewest_cells
from smalti.errors import Impossible, TooManyCases, UnequalSize
from smalti.histories import check_history, history_mending
from smalti.peeling import loosened
from smalti.pictures import Picture
from smalti.rules import CountRule, Rule
from smalti.sketches import Sketch
from tests import oracle
from tests.helper import HUGE, SmaltiTest

BOOK = Book.read("d all 1,0:c\nc all -1,0:b")
PICTURE = Picture.read("adc")
SKETCH = Sketch.read("* * b")

# Each b waits for one of its two neighbours.
PAIRS = Book.read("a all\nc all\nb 1 -1,0:z 1,0:z")


class Examples(SmaltiTest):
    def test_example_of_the_document(self):
        shown = [fewest(BOOK, SKETCH, PICTURE), fewest(BOOK, Sketch(3, 1), PICTURE)]
        self.assertEqual(shown, [2, 0])

    def test_limit(self):
        self.assertEqual(counting.LIMIT, 8)


class Counting(SmaltiTest):
    """All three functions, asked the same."""

    def counted(self, number, book, sketch, picture, held=None, marked=None, **more):
        given = {"held": held, "marked": marked, **more}
        self.assertEqual(fewest(book, sketch, picture, **given), number)
        cells = fewest_cells(book, sketch, picture, **given)
        self.check_cells(number, cells, book, sketch, picture, held, marked)
        rows = bound_of(book, sketch, picture, **given)
        self.check_rows(rows, picture)
        evidence = {"held": held, "marked": marked}
        self.assertIs(check_bound(book, sketch, picture, number, rows, **evidence), True)
        self.assertIs(check_bound(book, sketch, picture, number - 1, rows, **evidence), True)
        return cells

    def check_cells(self, number, cells, book, sketch, picture, held, marked):
        self.assertIsInstance(cells, Region)
        self.assertEqual(len(cells), number)
        self.assertTrue(oracle.needed(sketch, picture, marked).within(cells))
        self.assertTrue(cells.within(oracle.loose(book, picture, held)))
        history = history_mending(book, sketch, picture, held=picture.stones() - cells)
        self.assertIs(check_history(book, sketch, picture, history), True)
        self.assertEqual([history.mended_cells(), history.mending_count()], [cells, number])

    def check_rows(self, rows, picture):
        self.assertIsInstance(rows, list)
        for row in rows:
            self.assertEqual([type(row), type(row[1]), type(row[2])], [tuple, list, list])
            self.assertTrue(Region(row[2]).within(picture.stones()))
            if row[0] == "split":
                self.assertIn((row[3], row[4]), picture.stones())

    def refused(self, error, book, sketch, picture, **more):
        for function in [fewest, fewest_cells, bound_of]:
            self.assert_error(error, function, book, sketch, picture, **more)


class Fewest(Counting):
    def test_nothing_is_needed(self):
        for book, picture in [(BOOK, PICTURE), (Book([]), PICTURE), (Book.read("same 0"), Picture.read(".")),
                              (Book.read("same 0"), Picture.read("a"))]:
            self.assertEqual(self.counted(0, book, Sketch(picture.width, 1), picture), Region([]))

    def test_required_cells(self):
        self.assertEqual(self.counted(2, BOOK, SKETCH, PICTURE), Region.of((1, 0), (2, 0)))
        self.assertEqual(self.counted(1, BOOK, Sketch.read("* a *"), PICTURE), Region.of((1, 0)))

    def test_one_of_two_is_enough(self):
        cells = self.counted(2, PAIRS, Sketch.read("* c *"), Picture.read("abc"))
        self.assertIn((1, 0), cells)
        self.assertEqual(self.counted(2, PAIRS, Sketch.read("* c b"), Picture.read("abc")), Region.of((1, 0), (2, 0)))

    def test_one_neighbour_for_two(self):
        sketch = Sketch.read("* z * z *")
        self.assertEqual(self.counted(3, PAIRS, sketch, Picture.read("abcba")), Region.of((1, 0), (2, 0), (3, 0)))
        self.assertEqual(len(self.counted(4, PAIRS, sketch, Picture.read("abdba"))), 4)
        self.counted(4, PAIRS, sketch, Picture.read("abcba"), held=Region.of((2, 0)))

    def test_held_cells(self):
        picture, sketch = Picture.read("abc"), Sketch.read("* c *")
        for held, cells in [(Region.of((0, 0)), [(1, 0), (2, 0)]), (Region.of((2, 0)), [(0, 0), (1, 0)])]:
            self.assertEqual(self.counted(2, PAIRS, sketch, picture, held=held).cells(), cells)
        self.counted(2, PAIRS, sketch, picture, held=Region.of((3, 0), (0, 1), (-1, 0), (HUGE, 0)))
        self.refused(Impossible([(1, 0)]), PAIRS, sketch, picture, held=Region.of((0, 0), (2, 0)))
        self.refused(Impossible([(1, 0)]), PAIRS, sketch, picture, held=Region.of((1, 0)))

    def test_marked_cells(self):
        picture = Picture.read("abc.")
        sketch = Sketch(4, 1)
        self.assertEqual(self.counted(1, PAIRS, sketch, picture, marked=Region.of((2, 0))), Region.of((2, 0)))
        self.assertEqual(len(self.counted(2, PAIRS, sketch, picture, marked=Region.of((1, 0)))), 2)
        everything = Region.of((0, 0), (1, 0), (2, 0))
        self.assertEqual(self.counted(3, PAIRS, sketch, picture, marked=everything), everything)

    def test_marked_holes_and_cells_outside_have_no_effect(self):
        marked = Region.of((3, 0), (-1, 0), (4, 0), (0, 1), (HUGE, 0), (0, -HUGE))
        self.counted(0, PAIRS, Sketch(4, 1), Picture.read("abc."), marked=marked)
        self.counted(1, PAIRS, Sketch(4, 1), Picture.read("abc."), marked=marked | Region.of((0, 0)))

    def test_marked_and_required(self):
        self.counted(2, PAIRS, Sketch.read("* z *"), Picture.read("abc"), marked=Region.of((1, 0)))
        self.counted(2, PAIRS, Sketch.read("* z *"), Picture.read("abc"), marked=Region.of((0, 0), (1, 0)))

    def test_held_and_marked(self):
        both = Region.of((0, 0))
        self.refused(Impossible([(0, 0)]), PAIRS, Sketch(3, 1), Picture.read("abc"), held=both, marked=both)
        hole = Region.of((1, 0), (5, 5))
        self.counted(0, PAIRS, Sketch(3, 1), Picture.read("a.c"), held=hole, marked=hole)

    def test_impossible_lists_the_needed_cells_in_reading_order(self):
        picture, sketch = Picture.read("adc\nqbq"), Sketch.read("* * *\n* z z")
        self.refused(Impossible([(1, 1), (2, 1)]), BOOK, sketch, picture)
        self.refused(Impossible([(0, 0), (1, 1), (2, 1)]), BOOK, sketch, picture, marked=Region.of((0, 0), (1, 0)))
        more = {"held": Region.of((1, 0)), "marked": Region.of((2, 0), (1, 0))}
        self.refused(Impossible([(1, 0), (2, 0), (1, 1), (2, 1)]), BOOK, sketch, picture, **more)

    def test_the_list_of_the_error_is_new(self):
        for _ in range(2):
            with self.assertRaises(Impossible) as caught:
                fewest(BOOK, Sketch.read("b"), Picture.read("a"))
            self.assertEqual(caught.exception.lacking, [(0, 0)])
            caught.exception.lacking.clear()

    def test_arguments_are_not_modified(self):
        held, marked, sketch = Region.of((0, 0)), Region.of((1, 0)), Sketch.read("* * b")
        self.counted(2, BOOK, sketch, PICTURE, held=held, marked=marked)
        self.assertEqual([held, marked, sketch.text()], [Region.of((0, 0)), Region.of((1, 0)), "* * b"])


class Limits(Counting):
    def test_no_open_cells(self):
        for limit in [0, 1, 8, 12]:
            self.counted(2, BOOK, SKETCH, PICTURE, limit=limit)
        self.refused(TooManyCases(0), BOOK, SKETCH, PICTURE, limit=-1)

    def test_as_many_as_the_limit_and_one_beyond_it(self):
        book = Book.read("same 0")
        for count in range(1, 14):
            rows = ["a" * min(count, 8), "a" * max(0, count - 8) + "." * (16 - count)]
            picture = Picture(rows[:1] if count <= 8 else rows)
            sketch = Sketch(picture.width, picture.height)
            self.counted(0, book, sketch, picture, limit=count)
            self.counted(0, book, sketch, picture, limit=count + 1)
            self.refused(TooManyCases(count), book, sketch, picture, limit=count - 1)

    def test_the_default_is_eight(self):
        book = Book.read("same 0")
        self.counted(0, book, Sketch(8, 1), Picture.plain(8, 1, "q"))
        self.refused(TooManyCases(9), book, Sketch(3, 3), Picture.plain(3, 3, "q"))
        self.counted(0, book, Sketch(3, 3), Picture.plain(3, 3, "q"), held=Region.of((1, 1)))
        self.counted(1, book, Sketch(3, 3), Picture.plain(3, 3, "q"), marked=Region.of((1, 1)))
        self.refused(TooManyCases(64), book, Sketch(8, 8), Picture.plain(8, 8, "q"))

    def test_what_is_open(self):
        # The a and the c are open, but neither is if the other one is held.
        picture, sketch = Picture.read("abc"), Sketch.read("* z *")
        self.refused(TooManyCases(2), PAIRS, sketch, picture, limit=1)
        self.refused(TooManyCases(0), PAIRS, sketch, picture, limit=-1, held=Region.of((0, 0)))
        self.refused(TooManyCases(1), PAIRS, sketch, picture, limit=0, marked=Region.of((0, 0)))
        self.refused(TooManyCases(3), PAIRS, Sketch(3, 1), picture, limit=2)

    def test_the_order_of_the_errors(self):
        picture = Picture.plain(3, 3, "q")
        for book in [Book.read("same 0"), Book([])]:
            self.refused(UnequalSize(), book, Sketch(2, 3), picture)
            self.refused(UnequalSize(), book, Sketch(3, 2), picture, marked=Region.of((0, 0)), limit=0)
        held = marked = Region.of((1, 1))
        self.refused(Impossible([(1, 1)]), Book.read("same 0"), Sketch(3, 3), picture, held=held, marked=marked)
        self.refused(TooManyCases(8), Book.read("same 0"), Sketch(3, 3), picture, held=held, limit=7)


class Comparisons(Counting):
    def test_with_many_cases(self):
        possible = 0
        for book, sketch, picture, held, marked in oracle.random_cases(43, 250):
            lacking = (oracle.needed(sketch, picture, marked) - oracle.loose(book, picture, held)).cells()
            free = len(oracle.open_cells(book, sketch, picture, held, marked))
            more = {"held": held, "marked": marked}
            if lacking:
                self.refused(Impossible(lacking), book, sketch, picture, limit=free - 1, **more)
                continue
            self.refused(TooManyCases(free), book, sketch, picture, limit=free - 1, **more)
            if free <= 6:
                possible += 1
                number = oracle.fewest(book, sketch, picture, held, marked)
                self.counted(number, book, sketch, picture, limit=free, **more)
                rows = bound_of(book, sketch, picture, **more)
                self.assertIs(check_bound(book, sketch, picture, number + 1, rows, **more), False)
        self.assertGreater(possible, 50)

    def test_with_many_pairs(self):
        picture = Picture.read("abcbabcb\ncbcbdbab\nadcbabda")
        sketch = Sketch(8, 3)
        for x, y in picture.every_cell():
            if picture[x, y] == "b" and (x + y) % 3 != 0:
                sketch[x, y] = "z"
        free = len(oracle.open_cells(PAIRS, sketch, picture))
        number = oracle.fewest(PAIRS, sketch, picture)
        self.counted(number, PAIRS, sketch, picture, limit=free)
        rows = bound_of(PAIRS, sketch, picture, limit=free)
        self.assertIn("clash", [row[0] for row in rows])
        self.assertIs(check_bound(PAIRS, sketch, picture, number + 1, rows), False)


class Bounds(SmaltiTest):
    """The one needed cell is (1, 0). It waits for the a or the c."""

    def setUp(self):
        self.picture = Picture.read("abc.")
        self.sketch = Sketch.read("* z * *")
        self.left = clash_of(PAIRS, self.picture, 1, 0, held=Region.of((0, 0), (2, 0)))
        self.rows = [
            ("split", [], [], 0, 0, 1, 4),
            ("split", [(0, 0)], [], 2, 0, 2, 3),
            ("clash", [(0, 0), (2, 0)], [], 1, 0, self.left),
            ("count", [(0, 0)], [(2, 0)]),
            ("count", [], [(0, 0)]),
        ]

    def check(self, rows, number=2, **more):
        return check_bound(PAIRS, self.sketch, self.picture, number, rows, **more)

    def with_row(self, at, row):
        return self.rows[:at] + [row] + self.rows[at + 1:]

    def test_valid(self):
        for number in [2, 1, 0, -1, -HUGE]:
            self.assertIs(self.check(self.rows, number), True)

    def test_a_count_that_is_too_small(self):
        for number in [3, 4, HUGE]:
            self.assertIs(self.check(self.rows, number), False)

    def test_no_rows(self):
        for number in [-1, 0, 1, 2]:
            self.assertIs(self.check([], number), False)

    def test_row_0_is_not_at_the_root(self):
        for row in [("count", [(0, 0)], []), ("count", [], [(0, 0)]), ("count", [(9, 9)], [(9, 9)])]:
            for number in [-5, 0, 1]:
                self.assertIs(self.check([row], number), False)
            self.assertIs(self.check([row] + self.rows[1:]), False)
        self.assertIs(self.check([("count", [], [])], 1), True)
        self.assertIs(self.check([("count", [], [])], 0), True)
        self.assertIs(self.check([("count", [], [])], -1), True)
        self.assertIs(self.check([("count", [], [])], 2), False)

    def test_rows_that_no_split_names(self):
        good = [("count", [], [(2, 0)]), ("clash", [(2, 0), (0, 0)], [(3, 0)], 1, 0, self.left), self.rows[1]]
        for row in good[:2]:
            self.assertIs(self.check(self.rows + [row]), True)
        self.assertIs(self.check(self.rows + [good[2]]), False)
        self.assertIs(self.check(self.rows + [("count", [], [])]), False)
        self.assertIs(self.check(self.rows + [("clash", [(0, 0)], [], 1, 0, self.left)]), False)

    def test_numbers_of_rows(self):
        for bad in [0, -1, -4, -HUGE, 5, 6, HUGE, 2, 3]:
            self.assertIs(self.check(self.with_row(0, ("split", [], [], 0, 0, bad, 4))), False)
        for bad in [0, -1, -5, -HUGE, 5, HUGE, 1, 2, 3]:
            self.assertIs(self.check(self.with_row(0, ("split", [], [], 0, 0, 1, bad))), False)
        for bad in [1, 0, -3, -2, 4]:
            self.assertIs(self.check(self.with_row(1, ("split", [(0, 0)], [], 2, 0, bad, 3))), False)
            self.assertIs(self.check(self.with_row(1, ("split", [(0, 0)], [], 2, 0, 2, bad))), False)

    def test_a_split_that_names_itself_or_an_earlier_row(self):
        rows = [("split", [], [], 0, 0, 1, 2), ("count", [(0, 0)], []), ("count", [], [(0, 0)])]
        self.assertIs(self.check(rows, 1), True)
        self.assertIs(self.check([("split", [], [], 0, 0, 0, 0)], 0), False)
        self.assertIs(self.check(rows + [("split", [], [], 0, 0, 1, 2)], 1), False)
        self.assertIs(self.check(rows[:1] + rows[2:] + rows[1:2], 1), False)
        self.assertIs(self.check([("split", [], [], 0, 0, 2, 1)] + rows[2:] + rows[1:2], 1), True)

    def test_kept_and_taken_in_another_order(self):
        rows = list(self.rows)
        rows[2] = ("clash", [(2, 0), (0, 0)], [], 1, 0, self.left)
        self.assertIs(self.check(rows), False)
        rows = [("split", [], [], 0, 0, 1, 2), ("count", [(0, 0)], []), ("split", [], [(0, 0)], 2, 0, 3, 4),
                ("count", [(2, 0)], [(0, 0)]), ("count", [], [(0, 0), (2, 0)])]
        self.assertIs(self.check(rows, 1), True)
        rows[4] = ("count", [], [(2, 0), (0, 0)])
        self.assertIs(self.check(rows, 1), False)

    def test_kept_and_taken_of_the_rows_of_a_split(self):
        for row in [("count", [(0, 0)], [(0, 0)]), ("count", [], [(2, 0)]), ("count", [(1, 0)], [(0, 0)]),
                    ("count", [], [(0, 0), (2, 0)]), ("count", [], [(0, 0), (0, 0)])]:
            self.assertIs(self.check(self.with_row(4, row)), False)
        for row in [("count", [(0, 0)], [(2, 0), (2, 0)]), ("count", [], [(2, 0)]), ("count", [(0, 0), (2, 0)], [(2, 0)])]:
            self.assertIs(self.check(self.with_row(3, row)), False)
        swapped = self.with_row(1, ("split", [(0, 0)], [], 2, 0, 3, 2))
        self.assertIs(self.check(swapped), False)

    def test_a_row_that_two_splits_name(self):
        rows = [("split", [], [], 0, 0, 1, 2), ("count", [(0, 0)], []), ("count", [], [(0, 0)]),
                ("split", [], [], 0, 0, 4, 5), ("count", [(0, 0)], []), ("count", [], [(0, 0)])]
        self.assertIs(self.check(rows, 1), True)
        rows = [("split", [], [], 0, 0, 2, 3), ("split", [], [], 0, 0, 2, 3)] + rows[1:3]
        self.assertIs(self.check(rows, 1), True)

    def test_counts_of_different_cells(self):
        marked = Region.of((1, 0), (3, 0), (7, 7))
        for taken, number in [([(0, 0), (0, 0)], 2), ([(1, 0)], 1), ([(0, 0), (1, 0), (2, 0)], 3),
                              ([(9, 9), (-1, HUGE)], 3), ([], 1)]:
            rows = [("clash", [], [], 1, 0, clash_of(Book([]), self.picture, 1, 0)), ("count", [(5, 5)], taken)]
            for greater in range(3):
                answer = check_bound(Book([]), Sketch(4, 1), self.picture, number + greater, rows, marked=marked)
                self.assertIs(answer, greater == 0)

    def test_needed_cells_count(self):
        picture, sketch = Picture.read("aba"), Sketch.read("z * z")
        root = [("count", [], [])]
        self.assertIs(check_bound(PAIRS, sketch, picture, 2, root), True)
        self.assertIs(check_bound(PAIRS, sketch, picture, 3, root), False)
        self.assertIs(check_bound(PAIRS, sketch, picture, 3, root, marked=Region.of((1, 0))), True)
        self.assertIs(check_bound(PAIRS, sketch, picture, 3, root, marked=Region.of((0, 0), (9, 9))), False)
        self.assertIs(check_bound(Book([]), sketch, picture, 2, root, held=picture.stones()), True)

    def test_needed_and_taken_cells_count_once(self):
        rows = [("split", [], [], 1, 0, 1, 2), ("clash", [(1, 0)], [], 1, 0, Clash(Region.of((1, 0)), [])),
                ("count", [], [(1, 0)])]
        self.assertIs(self.check(rows, 1), True)
        self.assertIs(self.check(rows, 2), False)

    def test_a_clash_that_is_not_valid(self):
        for clash in [Clash(Region.of((1, 0), (0, 0)), []), Clash(Region.of((1, 0), (0, 0), (2, 0)), []),
                      Clash(Region.of((1, 0), (0, 0), (2, 0), (3, 0)), self.left.refusals),
                      clash_of(Book([]), self.picture, 1, 0)]:
            self.assertIs(self.check(self.with_row(2, ("clash", [(0, 0), (2, 0)], [], 1, 0, clash))), False)
        good = Clash(self.picture.stones(), [(1, 0, 2, [(0, 0), (2, 0)])])
        self.assertIs(self.check(self.with_row(2, ("clash", [(0, 0), (2, 0)], [], 1, 0, good))), True)

    def test_a_clash_at_another_cell(self):
        for x, y in [(0, 0), (2, 0), (3, 0), (-1, 0), (HUGE, 0)]:
            self.assertIs(self.check(self.with_row(2, ("clash", [(0, 0), (2, 0)], [], x, y, self.left))), False)
        elsewhere = Clash(Region.of((0, 0)), [])
        self.assertIs(self.check(self.with_row(2, ("clash", [(0, 0), (2, 0)], [], 1, 0, elsewhere))), False)

    def test_a_clash_at_a_taken_cell(self):
        taken = ("clash", [(0, 0)], [(0, 0)], 0, 0, Clash(Region.of((0, 0)), []))
        self.assertIs(self.check(self.rows + [taken]), True)
        self.assertIs(self.check(self.rows + [("clash", [(0, 0)], [(2, 0)], 0, 0, taken[5])]), False)
        self.assertIs(self.check(self.rows + [("clash", [(2, 0)], [(0, 0)], 0, 0, taken[5])]), False)

    def test_held_cells_are_held_in_clashes(self):
        rows = [("split", [], [], 0, 0, 1, 2), ("clash", [(0, 0)], [], 1, 0, self.left), ("count", [], [(0, 0)])]
        self.assertIs(self.check(rows), False)
        self.assertIs(self.check(rows, held=Region.of((2, 0))), True)
        self.assertIs(self.check(rows, held=Region.of((3, 0), (-1, 0))), False)

    def test_kept_holes_and_cells_outside_have_no_effect(self):
        kept = [(0, 0), (2, 0)]
        for extra in [(3, 0), (-1, 0), (HUGE, -HUGE)]:
            self.assertIs(self.check(self.rows + [("clash", kept + [extra], [], 1, 0, self.left)]), True)
            self.assertIs(self.check(self.rows + [("clash", kept[:1] + [extra], [], 1, 0, self.left)]), False)

    def test_a_split_by_any_cell(self):
        for cell in [(3, 0), (-1, 0), (HUGE, 0)]:
            rows = [("split", [], [], *cell, 1, 2), ("count", [cell], []), ("count", [], [cell])]
            self.assertIs(self.check(rows, 1), True)
            self.assertIs(self.check(rows, 2), False)

    def test_unequal_sizes(self):
        for rows in [self.rows, [], [("count", [], [(0, 0)])]]:
            for number in [-1, 0, 2]:
                self.assert_error(UnequalSize(), check_bound, PAIRS, Sketch(4, 2), self.picture, number, rows)
                self.assert_error(UnequalSize(), check_bound, PAIRS, Sketch(3, 1), self.picture, number, rows)

    def test_the_rows_are_not_modified(self):
        before = [tuple(list(part) if isinstance(part, list) else part for part in row) for row in self.rows]
        self.check(self.rows)
        self.assertEqual(self.rows, before)

    def test_the_lists_of_a_bound_are_new(self):
        rows = bound_of(PAIRS, self.sketch, self.picture)
        others = bound_of(PAIRS, self.sketch, self.picture)
        for row in rows:
            row[1].append((7, 7))
            row[2].append((7, 7))
            for part in row[3:]:
                if isinstance(part, Clash):
                    part.refusals.clear()
        rows.clear()
        self.assertIs(self.check(others), True)
        self.assertIs(self.check(bound_of(PAIRS, self.sketch, self.picture)), True)

    def test_the_rows_of_a_bound_share_no_lists(self):
        rows = bound_of(PAIRS, self.sketch, self.picture)
        lists = [id(part) for row in rows for part in row[1:3]]
        self.assertEqual(len(set(lists)), 2 * len(rows))


class Largest(Counting):
    """Pictures of 8 by 8 cells, books of 20 rules, and 12 open cells: in seconds."""

    def in_seconds(self, book, sketch, picture, cases):
        start = time.process_time()
        number = fewest(book, sketch, picture, limit=12)
        self.assertEqual(len(fewest_cells(book, sketch, picture, limit=12)), number)
        rows = bound_of(book, sketch, picture, limit=12)
        self.assertIs(check_bound(book, sketch, picture, number, rows), True)
        self.assertIs(check_bound(book, sketch, picture, number + 1, rows), False)
        self.assertLess(time.process_time() - start, 20)
        self.assert_error(TooManyCases(cases), fewest, book, sketch, picture, limit=cases - 1)
        return number

    def test_pairs(self):
        book = Book([Rule("a", []), Rule("c", [])] + [CountRule("b", [(-1, 0, "z"), (1, 0, "z")], 1)] * 18)
        picture = Picture(["abcdabcd", "dddddddd"] * 3 + ["dddddddd"] * 2)
        sketch = Sketch(8, 8)
        for x, y in picture.stones().cells():
            if picture[x, y] == "b":
                sketch[x, y] = "z"
        self.assertEqual(self.in_seconds(book, sketch, picture, 12), 12)

    def test_rules_with_eight_conditions(self):
        for seed in [123, 130]:
            book, sketch, picture = full_case(seed)
            with self.assertRaises(TooManyCases) as caught:
                fewest(book, sketch, picture, limit=-1)
            self.assertGreater(caught.exception.cases, 9)
            self.assertGreater(self.in_seconds(book, sketch, picture, caught.exception.cases), 40)

    def test_nothing_is_needed(self):
        picture = Picture(["aaaaaaaa"] + ["aaaabbbb"] + ["bbbbbbbb"] * 6)
        eight = [(dx, dy, "z") for dx in (-1, 0, 1) for dy in (-1, 0, 1) if (dx, dy) != (0, 0)]
        book = Book([Rule("a", [])] + [CountRule("b", eight, 5)] * 18 + [Rule("b", [(0, 1, "z")])])
        self.assertEqual(self.in_seconds(book, Sketch(8, 8), picture, 12), 0)


def full_case(seed):
    """A book of 20 rules, a sketch and a full picture with about 12 open cells."""
    dice = random.Random(seed)
    far = [(dx, dy) for dx in range(-3, 4) for dy in range(-3, 4) if (dx, dy) != (0, 0)]
    free = dice.sample([(x, y) for y in range(1, 7) for x in range(1, 7)], 12)
    rules = [Rule("a", [])]
    for _ in range(19):
        conditions = [(dx, dy, "z") for dx, dy in dice.sample(far, 8)]
        rules.append(CountRule("b", conditions, dice.randint(4, 8)))
    book = Book(rules)
    picture = Picture(["".join("a" if (x, y) in free else "b" for x in range(8)) for y in range(8)])
    sketch = Sketch(8, 8)
    for cell in (loosened(book, picture) - Region(free)).cells():
        sketch[cell] = "z"
    return book, sketch, picture


if __name__ == "__main__":
    unittest.main()
