"""smalti/histories.py: histories, their texts, and one that mends (points 2, 24, 27, 29 to 32, 34 and 37)."""

import unittest

from smalti.books import Book
from smalti.cells import Region
from smalti.errors import BadDeed, Impossible, InvalidHistory, UnequalSize
from smalti.histories import History, check_history, history_mending
from smalti.peeling import loosened
from smalti.pictures import Picture
from smalti.rules import Rule, SameRule
from smalti.sketches import Sketch, required_cells
from tests import oracle
from tests.helper import HUGE, SmaltiTest

BOOK = Book.read("d all 1,0:c\nc all -1,0:b")
DEEDS = [("fall", 1, 0), ("fall", 2, 0), ("mend", 2, 0, 1, "c"), ("mend", 1, 0, 0, "d")]
TEXT = "adb\n--\nfall 1 0\nfall 2 0\nmend 2 0 1 c\nmend 1 0 0 d"
NO_DEEDS = [(), ("fall",), ("fall", 0), ("fall", 0, 0, 0), ("mend", 2, 0), ("mend", 2, 0, 1), ("mend", 2, 0, 1, "c", 0),
            ("mends", 2, 0, 1, "c"), ("Mend", 2, 0, 1, "c"), ("fall", 2, 0, 1, "c"), ("mend", 2, 0, "c"), ("", 0, 0)]


class Examples(SmaltiTest):
    def test_example_of_the_document(self):
        history = History.read(TEXT)
        shown = [check_history(BOOK, Sketch.read("* * b"), Picture.read("adc"), history), history.mending_count()]
        self.assertEqual(shown, [True, 2])


class Making(SmaltiTest):
    def test_attributes(self):
        first = Picture.read("adb")
        history = History(first, DEEDS)
        self.assertEqual([history.first, history.deeds], [first, DEEDS])
        self.assertEqual([type(history.deeds), type(history.deeds[0])], [list, tuple])

    def test_the_list_is_copied(self):
        deeds = list(DEEDS)
        history = History(Picture.read("adb"), deeds)
        deeds.clear()
        self.assertEqual(history.deeds, DEEDS)

    def test_nothing_is_checked(self):
        for deeds in [NO_DEEDS, [("fall", 9, -9)], [("mend", HUGE, -HUGE, HUGE, "")], [("mend", 0, 0, 0, "a")] * 99]:
            self.assertEqual(History(Picture.read("."), deeds).deeds, deeds)


class Reading(SmaltiTest):
    """What only reads the list of deeds."""

    def test_no_deeds(self):
        history = History(Picture.read("ab"), [])
        self.assertEqual([history.mended_cells(), history.mending_count()], [Region([]), 0])

    def test_falls_are_no_mendings(self):
        history = History(Picture.read("ab"), [("fall", 0, 0), ("fall", 1, 0)])
        self.assertEqual([history.mended_cells(), history.mending_count()], [Region([]), 0])

    def test_a_cell_that_is_mended_several_times(self):
        deeds = [("fall", 0, 0), ("mend", 0, 0, 0, "a"), ("fall", 0, 0), ("mend", 0, 0, 0, "b"), ("mend", 3, 1, 0, "b")]
        history = History(Picture.read("ab"), deeds)
        self.assertEqual([history.mended_cells(), history.mending_count()], [Region.of((0, 0), (3, 1)), 3])

    def test_it_does_not_matter_whether_the_deeds_can_be_done(self):
        deeds = [("mend", -1, 8, 77, "q"), ("mend", HUGE, -HUGE, -1, ""), ("mend", 0, 0, 0, "#")]
        history = History(Picture.read("a"), deeds)
        self.assertEqual(history.mended_cells(), Region.of((-1, 8), (HUGE, -HUGE), (0, 0)))
        self.assertEqual(history.mending_count(), 3)

    def test_other_tuples_are_ignored(self):
        history = History(Picture.read("a"), NO_DEEDS + [("mend", 1, 2, 3, "d")] + NO_DEEDS)
        self.assertEqual([history.mended_cells(), history.mending_count()], [Region.of((1, 2)), 1])

    def test_kinds_of_values(self):
        history = History(Picture.read("a"), DEEDS)
        self.assertEqual([type(history.mended_cells()), type(history.mending_count())], [Region, int])


class Last(SmaltiTest):
    def test_the_last_picture(self):
        history = History.read(TEXT)
        self.assertEqual(str(history.last(BOOK)), "adc")
        self.assertIsInstance(history.last(BOOK), Picture)

    def test_no_deeds(self):
        self.assertEqual(str(History(Picture.read("a.\nbc"), []).last(Book([]))), "a.\nbc")

    def test_a_cell_falls_and_is_mended_several_times(self):
        deeds = [("fall", 0, 0), ("mend", 0, 0, 0, "b"), ("fall", 0, 0), ("mend", 0, 0, 0, "c"), ("fall", 0, 0)]
        history = History(Picture.read("ab"), deeds)
        self.assertEqual(str(history.last(Book.read("same 0"))), ".b")

    def test_a_deed_that_cannot_be_done(self):
        bad = [("fall", 3, 0), ("fall", 0, HUGE), ("mend", 0, 0, 1, "c"), ("mend", -1, 0, 1, "c"), ("fall", 0, -1)]
        for index in range(5):
            for deed in bad:
                history = History(Picture.read("adb"), DEEDS[:index] + [deed] + DEEDS[index:])
                self.assert_error(BadDeed(index), history.last, BOOK)

    def test_a_mending_that_cannot_be_done(self):
        for deed in [("mend", 2, 0, 2, "c"), ("mend", 2, 0, -1, "c"), ("mend", 2, 0, 1, "d"), ("mend", 2, 0, 0, "c"),
                     ("mend", 2, 0, 0, "d"), ("mend", 2, 0, HUGE, "c"), ("mend", 2, 0, 1, "")]:
            history = History(Picture.read("adb"), [("fall", 2, 0), deed])
            self.assert_error(BadDeed(1), history.last, BOOK)

    def test_a_deed_of_no_form(self):
        for deed in NO_DEEDS:
            self.assert_error(BadDeed(0), History(Picture.read("adb"), [deed]).last, BOOK)
            self.assert_error(BadDeed(2), History(Picture.read("adb"), DEEDS[:2] + [deed] + DEEDS[2:]).last, BOOK)

    def test_the_book_matters(self):
        history = History.read(TEXT)
        self.assert_error(BadDeed(2), history.last, Book([]))
        self.assert_error(BadDeed(2), history.last, Book.read("c 0\nd 0"))

    def test_the_history_does_not_change(self):
        history = History.read(TEXT)
        history.last(BOOK)
        history.last(Book.read("same 0\nsame 0"))
        self.assertEqual(history.text(), TEXT)


class Texts(SmaltiTest):
    def bad(self, text, line):
        self.assert_error(InvalidHistory(line), History.read, text)

    def test_read(self):
        history = History.read("adb\n...\n--\nfall 1 0\nmend 7 0 99 z\nmend 0 7 0 a\nmend 3 4 10 c")
        self.assertEqual(str(history.first), "adb\n...")
        deeds = [("fall", 1, 0), ("mend", 7, 0, 99, "z"), ("mend", 0, 7, 0, "a"), ("mend", 3, 4, 10, "c")]
        self.assertEqual(history.deeds, deeds)

    def test_text(self):
        self.assertEqual(History(Picture.read("adb"), DEEDS).text(), TEXT)
        self.assertEqual(History(Picture.read("a\n."), []).text(), "a\n.\n--")

    def test_text_is_what_read_takes(self):
        for text in [TEXT, "a\n--", "a.\n.b\n--\nfall 7 7", "\n".join(["abcdefgh"] * 8) + "\n--\nmend 7 6 20 q"]:
            self.assertEqual(History.read(text).text(), text)

    def test_read_is_a_class_method(self):
        self.assertIsInstance(vars(History)["read"], classmethod)

    def test_the_empty_text(self):
        self.bad("", 2)

    def test_without_the_line(self):
        self.bad("adb", 2)
        self.bad("adb\nfall 1 0", 3)
        self.bad("X\n-- \n --\n---\n-", 6)
        self.bad("adb\n", 3)
        self.bad("\n", 3)

    def test_no_row_above_the_line(self):
        self.bad("--", 1)
        self.bad("--\nfall 1 0", 1)
        self.bad("--\nnonsense", 1)

    def test_bad_rows(self):
        self.bad("aB\n--", 1)
        self.bad("ab\nc\n--\nnonsense", 2)
        self.bad("ab\n\n--", 2)
        self.bad("\nab\n--", 1)
        self.bad("ab\nc#\n--", 2)
        self.bad("abcdefghi\n--", 1)
        self.bad("\n".join(["a"] * 9) + "\n--", 9)
        self.bad("\n".join(["a"] * 10) + "\n--", 9)
        self.bad("\n".join(["a"] * 4 + ["ab"] + ["a"] * 10) + "\n--", 5)

    def test_the_line_twice(self):
        self.bad("ab\n--\n--", 3)
        self.bad("ab\n--\nfall 0 0\n--\nfall 1 0", 4)
        self.bad("--\n--", 1)

    def test_a_newline_at_the_end(self):
        self.bad("ab\n--\n", 3)
        self.bad("ab\nab\n--\nfall 0 0\n", 5)

    def test_an_empty_line(self):
        self.bad("ab\n--\n\nfall 0 0", 3)
        self.bad("ab\n--\nfall 0 0\n\nfall 0 0", 4)

    def test_an_empty_word(self):
        for deed in ["fall  0 0", "fall 0  0", "fall 0 0 ", " fall 0 0", " ", "fall 0 ", "fall  0", "mend 0 0 0  a",
                     "mend 0  0 0 a", "mend 0 0 0 ", "mend 0 0 0 a ", "mend 0 0  a"]:
            self.bad("ab\n--\n" + deed, 3)

    def test_malformed_falls(self):
        for deed in ["fall", "fall 0", "fall 0 0 0", "Fall 0 0", "fell 0 0", "fall 8 0", "fall 0 8", "fall 9 9",
                     "fall 10 0", "fall 0 12", "fall 00 0", "fall -1 0", "fall 0 -0", "fall +1 0", "fall a 0",
                     "fall 0 a", "fall 0,0", "fall\t0 0", "fall 0 0\r", "fall 1 0 1 c", "fall \u0661 0", "fall 01 0"]:
            self.bad("ab\n--\nfall 0 0\n" + deed, 4)

    def test_malformed_mendings(self):
        for deed in ["mend", "mend 0 0", "mend 0 0 0", "mend 0 0 0 a b", "mend 0 0 a 0", "mend 8 0 0 a", "mend 0 8 0 a",
                     "mend 10 0 0 a", "mend 0 10 0 a", "mend 0 0 00 a", "mend 0 0 01 a", "mend 0 0 100 a",
                     "mend 0 0 -1 a", "mend 0 0 +1 a", "mend 0 0 x a", "mend 0 0 1x a", "mend 0 0 1_ a",
                     "mend 0 0 0 .", "mend 0 0 0 #", "mend 0 0 0 ab", "mend 0 0 0 A", "mend 0 0 0 1", "mend 0 0 0 \u00e4",
                     "mend 0 0 \u0661 a", "mend 0 0 000 a", "mend 0 0 099 a", "MEND 0 0 0 a", "mend 0 0 0 aa"]:
            self.bad("ab\n--\n" + deed, 3)
            self.bad("ab\nab\n--\nfall 0 0\n" + deed + "\nnonsense", 5)

    def test_numbers_of_rules(self):
        for number in range(100):
            self.assertEqual(History.read(f"a\n--\nmend 0 0 {number} a").deeds, [("mend", 0, 0, number, "a")])
        self.bad("a\n--\nmend 0 0 100 a", 3)

    def test_coordinates(self):
        for number in range(8):
            self.assertEqual(History.read(f"a\n--\nfall {number} 0\nfall 0 {number}").deeds,
                             [("fall", number, 0), ("fall", 0, number)])

    def test_whether_the_deeds_can_be_done_is_not_checked(self):
        history = History.read("a\n--\nmend 7 7 99 q\nfall 5 5")
        self.assertEqual(len(history.deeds), 2)
        self.assert_error(BadDeed(0), history.last, BOOK)


class Checking(SmaltiTest):
    def setUp(self):
        self.history = History.read(TEXT)
        self.sketch = Sketch.read("* * b")
        self.picture = Picture.read("adc")

    def check(self, **other):
        given = {"book": BOOK, "sketch": self.sketch, "picture": self.picture, "history": self.history, **other}
        return check_history(given["book"], given["sketch"], given["picture"], given["history"])

    def test_a_good_one(self):
        self.assertIs(self.check(), True)

    def test_no_deeds(self):
        self.assertIs(self.check(history=History(Picture.read("adb"), []), picture=Picture.read("adb")), True)
        self.assertIs(self.check(history=History(Picture.read("adb"), [])), False)

    def test_it_leads_elsewhere(self):
        self.assertIs(self.check(picture=Picture.read("adb")), False)
        self.assertIs(self.check(picture=Picture.read("ad.")), False)
        self.assertIs(self.check(history=History(self.history.first, DEEDS + [("fall", 0, 0)])), False)

    def test_it_does_not_fit_the_sketch(self):
        self.assertIs(self.check(sketch=Sketch.read("* * c")), False)
        self.assertIs(self.check(sketch=Sketch.read("* .abce *")), False)

    def test_deeds_that_cannot_be_done(self):
        self.assertIs(self.check(history=History(self.history.first, DEEDS + [("fall", 3, 0)])), False)
        self.assertIs(self.check(book=Book([])), False)
        for deed in NO_DEEDS:
            self.assertIs(self.check(history=History(self.history.first, DEEDS + [deed])), False)

    def test_different_sizes(self):
        self.assertIs(self.check(sketch=Sketch(3, 2)), False)
        self.assertIs(self.check(sketch=Sketch(1, 3)), False)
        self.assertIs(self.check(picture=Picture.read("adc\n...")), False)
        self.assertIs(self.check(picture=Picture.read("a\nd\nc"), sketch=Sketch(1, 3)), False)
        self.assertIs(self.check(picture=Picture.read("ad"), sketch=Sketch(2, 1)), False)
        self.assertIs(self.check(history=History(Picture.read("ad"), [])), False)
        self.assertIs(self.check(history=History(Picture.read("adc\n..."), [])), False)


class Mending(SmaltiTest):
    def mended(self, book, sketch, picture, loose, **more):
        """A history with all that point 37 says of it."""
        history = history_mending(book, sketch, picture, **more)
        self.assertIs(check_history(book, sketch, picture, history), True)
        self.assertEqual([history.mended_cells(), history.mending_count()], [loose, len(loose)])
        fallen = [deed[1:] for deed in history.deeds if deed[0] == "fall"]
        self.assertEqual(len(fallen), len(set(fallen)))
        for cell in picture.every_cell():
            free = cell in loose or picture[cell] == "."
            self.assertEqual(history.first[cell], min(sketch[cell]) if free else picture[cell])
        self.assertEqual(History.read(history.text()).deeds, history.deeds)
        return history

    def test_the_first_picture(self):
        history = self.mended(BOOK, Sketch.read("* fe b"), Picture.read("adc"), Region.of((1, 0), (2, 0)))
        self.assertEqual(str(history.first), "aeb")
        self.assertEqual(sorted(history.deeds[:2]), [("fall", 1, 0), ("fall", 2, 0)])
        self.assertEqual(history.deeds[2:], [("mend", 2, 0, 1, "c"), ("mend", 1, 0, 0, "d")])

    def test_least_signs(self):
        picture = Picture.read("ad.\nc..")
        sketch = Sketch.read("abc zyd zx.\nca. q zyx")
        history = self.mended(Book.read("d all\nc 0"), sketch, picture, Region.of((1, 0), (0, 1)))
        self.assertEqual(str(history.first), "ad.\n.qx")

    def test_a_hole_that_the_sketch_does_not_allow_falls(self):
        history = self.mended(Book([]), Sketch.read("ba"), Picture.read("."), Region([]))
        self.assertEqual([str(history.first), history.deeds], ["a", [("fall", 0, 0)]])

    def test_no_stones_and_stones_only(self):
        history = self.mended(BOOK, Sketch(8, 8), Picture.plain(8, 8, "."), Region([]))
        self.assertEqual([history.first, history.deeds], [Picture.plain(8, 8, "."), []])
        everything = Picture.plain(8, 8, "q")
        self.mended(Book.read("q all"), Sketch(8, 8), everything, everything.stones())
        history = self.mended(BOOK, Sketch(8, 8), everything, Region([]))
        self.assertEqual([history.first, history.deeds], [everything, []])

    def test_one_cell(self):
        self.mended(Book.read("a all"), Sketch.read("b"), Picture.read("a"), Region.of((0, 0)))
        self.mended(Book.read("b all"), Sketch.read("a"), Picture.read("a"), Region([]))

    def test_held_cells(self):
        sketch, picture = Sketch(3, 1), Picture.read("adc")
        self.mended(BOOK, sketch, picture, Region.of((1, 0)), held=Region.of((2, 0)))
        self.mended(BOOK, sketch, picture, Region([]), held=Region.of((1, 0)))
        for held in [None, Region([]), Region.of((0, 0), (5, 5), (-1, 0))]:
            self.mended(BOOK, sketch, picture, Region.of((1, 0), (2, 0)), held=held)

    def test_impossible(self):
        def lacks(lacking, sketch, **more):
            self.assert_error(Impossible(lacking), history_mending, BOOK, Sketch.read(sketch), picture, **more)

        picture = Picture.read("adc\na.c")
        lacks([(0, 0)], "b * *\n* * *")
        lacks([(0, 0), (0, 1)], "b * b\n. . b")
        lacks([(2, 0)], "* * b\n* * *", held=Region.of((2, 0)))
        lacks([(1, 0), (2, 0), (0, 1)], "* c b\nb * *", held=Region.of((1, 0)))
        self.mended(BOOK, Sketch.read("* * b\n* * b"), picture, Region.of((1, 0), (2, 0), (2, 1)))

    def test_the_list_of_the_error_is_new(self):
        for _ in range(2):
            with self.assertRaises(Impossible) as caught:
                history_mending(BOOK, Sketch.read("b"), Picture.read("a"))
            self.assertEqual(caught.exception.lacking, [(0, 0)])
            caught.exception.lacking.clear()

    def test_unequal_sizes(self):
        for width, height in [(3, 2), (2, 1), (1, 3), (4, 1)]:
            for text in ["adc", "..."]:
                self.assert_error(UnequalSize(), history_mending, BOOK, Sketch(width, height), Picture.read(text))

    def test_arguments_are_not_modified_and_answers_are_new(self):
        sketch, picture, held = Sketch.read("* fe b"), Picture.read("adc"), Region.of((0, 0))
        history = history_mending(BOOK, sketch, picture, held=held)
        history.deeds.clear()
        again = history_mending(BOOK, sketch, picture, held=held)
        self.assertEqual(len(again.deeds), 4)
        self.assertEqual([sketch.text(), str(picture), held.cells()], ["* ef b", "adc", [(0, 0)]])

    def test_with_many_cases(self):
        possible = 0
        for book, sketch, picture, held, _ in oracle.random_cases(37, 300):
            loose = oracle.loose(book, picture, held)
            lacking = (required_cells(sketch, picture) - loose).cells()
            if lacking:
                self.assert_error(Impossible(lacking), history_mending, book, sketch, picture, held=held)
            else:
                possible += 1
                self.mended(book, sketch, picture, loose, held=held)
        self.assertGreater(possible, 100)

    def test_the_largest_picture_and_book(self):
        eight = [(dx, dy) for dx in (-1, 0, 1) for dy in (-1, 0, 1) if (dx, dy) != (0, 0)]
        rules = [SameRule(eight, 8)] * 19 + [Rule("a", [(0, -1, "#"), (-1, 0, "#")])]
        picture = Picture(["aaaaaaaa", "aaaabaaa"] * 4)
        history_book = Book(rules)
        self.mended(history_book, Sketch(8, 8), picture, loosened(history_book, picture))


if __name__ == "__main__":
    unittest.main()
