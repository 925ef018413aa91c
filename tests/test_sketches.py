"""smalti/sketches.py: sketches and required cells (points 2, 21 to 23 and 36)."""

import string
import unittest

from smalti.cells import Region
from smalti.errors import EmptyCell, InvalidSigns, InvalidSketch, OutOfPicture, UnequalSize
from smalti.pictures import Picture
from smalti.sketches import Sketch, required_cells
from tests.helper import HUGE, SmaltiTest

ALL = "." + string.ascii_lowercase
BAD_SIGNS = ["", "aa", "aba", "..", "a.b.", "#", "a#", "A", "aB", "*", "a*", " ", "a b", "a\n", "1", "\u00e9", ALL + "a"]
SIZES = [(3, 3), (2, 2), (3, 2), (1, 3), (2, 4), (6, 1)]


class Examples(SmaltiTest):
    def test_example_of_the_document(self):
        sketch = Sketch.read("ba * .") & Sketch.read("b. ca *")
        self.assertEqual([sketch.text(), sketch.ways()], ["b ac .", 2])


class Making(SmaltiTest):
    def test_any(self):
        self.assertEqual(Sketch.ANY, ".abcdefghijklmnopqrstuvwxyz")
        self.assertEqual([Sketch.ANY, Sketch(1, 1).ANY], [ALL, ALL])

    def test_all_signs_are_allowed(self):
        sketch = Sketch(3, 2)
        self.assertEqual({sketch[x, y] for x in range(3) for y in range(2)}, {ALL})
        self.assertEqual(sketch.text(), "* * *\n* * *")

    def test_sides(self):
        for width in range(1, 9):
            for height in range(1, 9):
                sketch = Sketch(width, height)
                self.assertEqual([sketch.width, sketch.height], [width, height])
                self.assertEqual(sketch[width - 1, height - 1], ALL)

    def test_bad_sides(self):
        for side in [0, 9, 10, -1, -8, HUGE, -HUGE]:
            self.assert_error(InvalidSketch(0), Sketch, side, 4)
            self.assert_error(InvalidSketch(0), Sketch, 4, side)
            self.assert_error(InvalidSketch(0), Sketch, side, side)
        self.assert_error(InvalidSketch(0), Sketch, 0, 9)

    def test_of_a_picture(self):
        sketch = Sketch.of(Picture.read("ab.\n.zc"))
        self.assertEqual(sketch.text(), "a b .\n. z c")
        self.assertEqual([sketch.width, sketch.height, sketch.ways()], [3, 2, 1])

    def test_of_large_and_small_pictures(self):
        self.assertEqual(Sketch.of(Picture(["q"])).text(), "q")
        self.assertEqual(Sketch.of(Picture.plain(8, 8, ".")).text(), "\n".join([". . . . . . . ."] * 8))

    def test_read_and_of_are_class_methods(self):
        for name in ["read", "of"]:
            self.assertIsInstance(vars(Sketch)[name], classmethod)


class Allowing(SmaltiTest):
    def setUp(self):
        self.sketch = Sketch.read("a b c\n. * d")

    def test_each_cell(self):
        rows = [[self.sketch[x, y] for x in range(3)] for y in range(2)]
        self.assertEqual(rows, [["a", "b", "c"], [".", ALL, "d"]])
        cell = (2, 1)
        self.assertEqual(self.sketch[cell], "d")

    def test_allow_replaces(self):
        self.assertIsNone(self.sketch.allow(1, 0, "x"))
        self.sketch.allow(2, 1, "zy.")
        self.assertEqual(self.sketch.text(), "a x c\n. * .yz")
        self.sketch.allow(2, 1, ALL[::-1])
        self.assertEqual(self.sketch.text(), "a x c\n. * *")

    def test_assignment_replaces(self):
        self.sketch[1, 0] = "x"
        cell = (2, 1)
        self.sketch[cell] = "zy."
        self.assertEqual(self.sketch.text(), "a x c\n. * .yz")

    def test_cells_are_apart(self):
        sketch = Sketch(3, 3)
        sketch.allow(1, 2, "a")
        self.assertEqual(sketch.text(), "* * *\n* * *\n* a *")

    def test_each_sign(self):
        for sign in ALL:
            self.sketch.allow(0, 0, sign)
            self.assertEqual(self.sketch[0, 0], sign)

    def assign(self, x, y, signs):
        self.sketch[x, y] = signs

    def test_out_of_picture(self):
        for x, y in [(-1, 0), (0, -1), (3, 0), (0, 2), (-3, -2), (HUGE, 0), (0, -HUGE), (2 ** 64, 1)]:
            self.assert_error(OutOfPicture(x, y), lambda: self.sketch[x, y])
            for signs in ["a", "", "#"]:
                self.assert_error(OutOfPicture(x, y), self.sketch.allow, x, y, signs)
                self.assert_error(OutOfPicture(x, y), self.assign, x, y, signs)

    def test_bad_signs(self):
        for signs in BAD_SIGNS:
            self.assert_error(InvalidSigns(signs), self.sketch.allow, 1, 1, signs)
            self.assert_error(InvalidSigns(signs), self.assign, 1, 1, signs)

    def test_an_error_changes_nothing(self):
        for x, y, signs in [(0, 0, "aa"), (0, 0, ""), (3, 0, "z"), (-1, 0, "z")]:
            with self.assertRaises(ValueError):
                self.sketch.allow(x, y, signs)
        self.assertEqual(self.sketch.text(), "a b c\n. * d")

    def test_a_sketch_is_not_iterated_over(self):
        with self.assertRaises(TypeError):
            list(self.sketch)


class Texts(SmaltiTest):
    def bad(self, text, line):
        self.assert_error(InvalidSketch(line), Sketch.read, text)

    def test_read(self):
        sketch = Sketch.read("* ab. z\n. q *")
        self.assertEqual([sketch.width, sketch.height], [3, 2])
        self.assertEqual([sketch[0, 0], sketch[1, 0], sketch[2, 0]], [ALL, ".ab", "z"])
        self.assertEqual([sketch[0, 1], sketch[1, 1], sketch[2, 1]], [".", "q", ALL])

    def test_signs_in_any_order(self):
        self.assertEqual(Sketch.read("zb.a ba").text(), ".abz ab")

    def test_all_signs_are_written_as_a_star(self):
        self.assertEqual(Sketch.read(ALL + " " + ALL[::-1] + " " + ALL[1:]).text(), "* * " + ALL[1:])

    def test_text_is_what_read_takes(self):
        for text in ["*", "a", ".", "ab .c *\n* * z", "\n".join(["* a b c d e f ."] * 8)]:
            self.assertEqual(Sketch.read(text).text(), text)

    def test_the_empty_text(self):
        self.bad("", 1)

    def test_a_newline_at_the_end(self):
        self.bad("a b\n", 2)
        self.bad("\n", 1)
        self.bad("\n".join(["a"] * 7) + "\n", 8)
        self.bad("\n".join(["a"] * 8) + "\n", 9)

    def test_empty_lines_and_words(self):
        self.bad("\na", 1)
        self.bad("a\n\na", 2)
        self.bad("a  b", 1)
        self.bad("a b\na ", 2)
        self.bad("a b\n b", 2)
        self.bad(" ", 1)
        self.bad("a ", 1)
        self.bad(" a", 1)

    def test_bad_words(self):
        for word in ["aa", "..", "aba", "#", "a#", "A", "**", "a*", "*.", "1", "-", "a\t", "b\r", "\u00e9"]:
            self.bad(word, 1)
            self.bad("a b\nc " + word, 2)
            self.bad("a b\n" + word + " c", 2)

    def test_another_number_of_words(self):
        self.bad("a b\na", 2)
        self.bad("a b\na b\na b c", 3)
        self.bad("a\na b\na", 2)

    def test_more_than_eight_words(self):
        self.bad(" ".join("abcdefghi"), 1)
        self.bad(" ".join("abcdefgh") + "\n" + " ".join("abcdefghi"), 2)
        self.assertEqual(Sketch.read(" ".join("abcdefgh")).width, 8)

    def test_more_than_eight_lines(self):
        self.assertEqual(Sketch.read("\n".join(["a"] * 8)).height, 8)
        self.bad("\n".join(["a"] * 9), 9)
        self.bad("\n".join(["a"] * 20), 9)
        self.bad("\n".join(["a"] * 8 + ["#"]), 9)
        self.bad("\n".join(["a"] * 10 + ["#"]), 9)

    def test_a_bad_line_before_the_ninth(self):
        self.bad("\n".join(["a"] * 7 + ["a b"] + ["a"] * 3), 8)
        self.bad("\n".join(["a", "#"] + ["a"] * 9), 2)

    def test_the_first_bad_line_of_several(self):
        self.bad("a b\na aa\na\n\n", 2)
        self.bad("a b\nc d\na\nA B", 3)
        self.bad("aa b\na", 1)

    def test_a_bad_first_line_comes_first(self):
        self.bad("a  b\na b", 1)
        self.bad("a b ## c d\na", 1)


class Pictures(SmaltiTest):
    def test_fits(self):
        sketch = Sketch.read("ab *\n. c.")
        for text in ["aq\n.c", "b.\n..", "bz\n.c"]:
            self.assertIs(sketch.fits(Picture.read(text)), True)
        for text in ["cq\n.c", ".q\n.c", "aq\nac", "aq\n.b"]:
            self.assertIs(sketch.fits(Picture.read(text)), False)

    def test_all_pictures_fit_all_signs(self):
        for sign in ALL:
            self.assertIs(Sketch(8, 8).fits(Picture.plain(8, 8, sign)), True)

    def test_of_fits_just_its_picture(self):
        picture = Picture.read("ab\n.c")
        self.assertIs(Sketch.of(picture).fits(picture), True)
        for x, y in picture.every_cell():
            self.assertIs(Sketch.of(picture).fits(picture.with_sign(x, y, "q")), False)

    def test_fits_with_unequal_sizes(self):
        for width, height in SIZES:
            self.assert_error(UnequalSize(), Sketch(2, 3).fits, Picture.plain(width, height, "a"))

    def test_ways(self):
        self.assertEqual(Sketch.read("a").ways(), 1)
        self.assertEqual(Sketch.read("ab .cd\n* xyz").ways(), 2 * 3 * 27 * 3)
        self.assertEqual(Sketch(8, 8).ways(), 27 ** 64)

    def test_ways_is_the_number_of_fitting_pictures(self):
        sketch = Sketch.read("ab .cd")
        fitting = [first + second for first in ALL for second in ALL if sketch.fits(Picture([first + second]))]
        self.assertEqual(sketch.ways(), len(fitting))


class Common(SmaltiTest):
    def test_both_allow(self):
        both = Sketch.read("abc *\n.a q") & Sketch.read("bcd .z\n* *")
        self.assertIs(type(both), Sketch)
        self.assertEqual(both.text(), "bc .z\n.a q")
        self.assertEqual([both.width, both.height], [2, 2])

    def test_ascii_order(self):
        first, second = Sketch(1, 1), Sketch(1, 1)
        first.allow(0, 0, "zya.")
        second.allow(0, 0, ".qza")
        self.assertEqual([(first & second)[0, 0], (second & first)[0, 0]], [".az", ".az"])

    def test_the_sketches_do_not_change(self):
        first, second = Sketch.read("ab *"), Sketch.read("b xy")
        both = first & second
        both.allow(0, 0, "q")
        self.assertEqual([first.text(), second.text(), both.text()], ["ab *", "b xy", "q xy"])
        first.allow(1, 0, "z")
        self.assertEqual(both.text(), "q xy")

    def test_with_itself(self):
        sketch = Sketch.read("ab *\n.c z")
        both = sketch & sketch
        self.assertEqual(both, sketch)
        both.allow(0, 0, "q")
        self.assertEqual(sketch.text(), "ab *\n.c z")

    def test_the_first_empty_cell(self):
        first, second = Sketch.read("a b\nc d\ne f"), Sketch.read("a *\nx y\nz f")
        self.assert_error(EmptyCell(0, 1), lambda: first & second)
        self.assert_error(EmptyCell(0, 1), lambda: second & first)

    def test_empty_cells_in_reading_order(self):
        for x, y in Picture.plain(3, 3, "a").every_cell():
            first, second = Sketch(3, 3), Sketch(3, 3)
            first[x, y] = "abc"
            second[x, y] = ".def"
            first[2, 2], second[2, 2] = "a", "b"
            self.assert_error(EmptyCell(x, y), lambda: first & second)

    def test_unequal_sizes(self):
        for width, height in SIZES:
            first, second = Sketch(2, 3), Sketch(width, height)
            self.assert_error(UnequalSize(), lambda: first & second)
            self.assert_error(UnequalSize(), lambda: second & first)

    def test_unequal_sizes_come_first(self):
        self.assert_error(UnequalSize(), lambda: Sketch.read("a b") & Sketch.read("b"))


class Comparing(SmaltiTest):
    def test_equal(self):
        self.assertTrue(Sketch.read("ab *") == Sketch.read("ba " + ALL))
        self.assertFalse(Sketch.read("ab *") != Sketch.read("ba " + ALL))
        self.assertTrue(Sketch.of(Picture(["a."])) == Sketch.read("a ."))
        self.assertTrue(Sketch(2, 2) == Sketch.read("* *\n* *"))

    def test_unequal(self):
        self.assertTrue(Sketch.read("ab *") != Sketch.read("a *"))
        self.assertFalse(Sketch.read("ab *") == Sketch.read("* ab"))

    def test_unequal_sizes(self):
        self.assertFalse(Sketch(2, 1) == Sketch(1, 2))
        self.assertFalse(Sketch(2, 3) == Sketch(3, 2))
        self.assertFalse(Sketch(1, 1) == Sketch(1, 2))

    def test_equal_behind_a_change(self):
        first, second = Sketch(1, 1), Sketch.read("ab")
        self.assertFalse(first == second)
        first.allow(0, 0, "ba")
        self.assertTrue(first == second)

    def test_not_equal_to_a_value_of_another_kind(self):
        sketch = Sketch.read("a")
        for other in ["a", ["a"], [["a"]], 1, None, True, Picture(["a"]), Region([])]:
            self.assertIs(sketch == other, False)
            self.assertIs(other == sketch, False)
            self.assertIs(sketch != other, True)


class Copies(SmaltiTest):
    def test_copy_is_equal(self):
        sketch = Sketch.read("ab *\n. z")
        copy = sketch.copy()
        self.assertIs(type(copy), Sketch)
        self.assertIsNot(copy, sketch)
        self.assertEqual(copy, sketch)
        self.assertEqual([copy.text(), copy.width, copy.height], ["ab *\n. z", 2, 2])

    def test_a_changed_copy_leaves_the_other_alone(self):
        sketch = Sketch.read("ab *\n. z")
        copy = sketch.copy()
        copy.allow(0, 0, "q")
        copy[1, 1] = "x"
        self.assertEqual([sketch.text(), copy.text()], ["ab *\n. z", "q *\n. x"])

    def test_a_changed_sketch_leaves_the_copy_alone(self):
        sketch = Sketch(2, 2)
        copy = sketch.copy()
        sketch.allow(0, 1, "q")
        self.assertEqual([sketch.text(), copy.text()], ["* *\nq *", "* *\n* *"])

    def test_questions_do_not_change_their_arguments(self):
        sketch, picture = Sketch.read("ab *"), Picture(["cd"])
        _ = [sketch.fits(picture), required_cells(sketch, picture), Sketch.of(picture), sketch.ways()]
        self.assertEqual([sketch.text(), str(picture)], ["ab *", "cd"])


class Required(SmaltiTest):
    def test_stones_that_are_not_allowed(self):
        sketch = Sketch.read("ab * .\nc .d z")
        region = required_cells(sketch, Picture.read("cqa\ncez"))
        self.assertIsInstance(region, Region)
        self.assertEqual(region.cells(), [(0, 0), (2, 0), (1, 1)])

    def test_holes_are_not_required(self):
        self.assertEqual(required_cells(Sketch.read("a b"), Picture.read("..")), Region([]))

    def test_none_and_all(self):
        picture = Picture.plain(8, 8, "a")
        self.assertEqual(required_cells(Sketch(8, 8), picture), Region([]))
        self.assertEqual(required_cells(Sketch.of(picture), picture), Region([]))
        self.assertEqual(required_cells(Sketch.of(Picture.plain(8, 8, ".")), picture), picture.stones())

    def test_unequal_sizes(self):
        for width, height in SIZES:
            self.assert_error(UnequalSize(), required_cells, Sketch(2, 3), Picture.plain(width, height, "a"))
            self.assert_error(UnequalSize(), required_cells, Sketch(width, height), Picture.plain(2, 3, "."))


if __name__ == "__main__":
    unittest.main()
