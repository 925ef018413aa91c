"""smalti/pictures.py: signs and pictures (points 2 to 8)."""

import string
import unittest

from smalti.cells import Region
from smalti.errors import InvalidPicture, InvalidSign, OutOfPicture, UnequalSize
from smalti.pictures import Picture
from tests.helper import HUGE, SmaltiTest

NOT_IN_PICTURES = ["#", "A", "Z", "0", "*", " ", "\n", "\t", "-", "`", "{", "\u00e9", "\u0430"]
NOT_A_SIGN = NOT_IN_PICTURES + ["", "ab", "..", "a.", "abc", string.ascii_lowercase]


class Examples(SmaltiTest):
    def test_reading_a_picture(self):
        picture = Picture.read("ab\nc.")
        shown = [picture[1, 0], picture[1, 1], picture[2, 0], len(picture)]
        self.assertEqual(shown, ["b", ".", "#", 3])

    def test_a_bad_picture(self):
        self.assert_error(InvalidPicture(2), Picture, ["ab", "c"])


class Rows(SmaltiTest):
    def bad(self, rows, line):
        self.assert_error(InvalidPicture(line), Picture, rows)

    def test_each_sign_of_a_picture(self):
        for sign in "." + string.ascii_lowercase:
            self.assertEqual(Picture([sign])[0, 0], sign)

    def test_smallest_and_largest(self):
        self.assertEqual(Picture(["a"]).lines(), ["a"])
        self.assertEqual(Picture(["abcdefgh"] * 8).lines(), ["abcdefgh"] * 8)
        self.assertEqual(Picture(["........"]).lines(), ["........"])
        self.assertEqual(Picture(["z"] * 8).lines(), ["z"] * 8)

    def test_no_rows(self):
        self.bad([], 1)

    def test_an_empty_row(self):
        self.bad([""], 1)
        self.bad(["", ""], 1)
        self.bad(["a", ""], 2)
        self.bad(["", "a"], 1)

    def test_more_than_eight_signs(self):
        self.bad(["abcdefghi"], 1)
        self.bad(["abcdefghi", "abcdefghi"], 1)
        self.bad(["abcdefgh", "abcdefghi"], 2)

    def test_another_length_than_the_first_row(self):
        self.bad(["ab", "ab", "abc"], 3)
        self.bad(["ab", "a", "ab"], 2)

    def test_another_sign(self):
        for sign in NOT_IN_PICTURES:
            self.bad([sign], 1)
            self.bad(["ab", "b" + sign], 2)
            self.bad(["ab", sign + "b"], 2)

    def test_the_first_bad_row_of_several(self):
        self.bad(["ab", "a", "A#", ""], 2)
        self.bad(["ab", "aB", "a", ""], 2)
        self.bad(["ab", "..", "", "#."], 3)
        self.bad(["a#", "a"], 1)

    def test_a_bad_first_row_comes_first(self):
        self.bad(["abc#", "a"], 1)
        self.bad(["abcdefghi", "a"], 1)

    def test_more_than_eight_rows(self):
        self.bad(["ab"] * 9, 9)
        self.bad(["ab"] * 20, 9)
        self.bad(["ab"] * 8 + ["#"], 9)
        self.bad(["ab"] * 10 + ["#"], 9)

    def test_a_bad_row_before_the_ninth(self):
        self.bad(["ab"] * 7 + ["a"] + ["ab"] * 3, 8)
        self.bad(["ab", "a."] + ["#"] * 9, 3)


class Texts(SmaltiTest):
    def bad(self, text, line):
        self.assert_error(InvalidPicture(line), Picture.read, text)

    def test_read(self):
        self.assertEqual(Picture.read("ab.\nc.d").lines(), ["ab.", "c.d"])
        self.assertEqual(Picture.read(".").lines(), ["."])

    def test_the_empty_text(self):
        self.bad("", 1)

    def test_a_newline_at_the_end(self):
        self.bad("ab\nc.\n", 3)
        self.bad("a\n", 2)
        self.bad("\n", 1)
        self.bad("\n".join(["ab"] * 8) + "\n", 9)

    def test_a_newline_at_the_begin_and_in_the_middle(self):
        self.bad("\nab", 1)
        self.bad("ab\n\nab", 2)

    def test_only_newlines_separate(self):
        self.bad("ab\r\nab", 1)
        self.bad("a b", 1)
        self.bad("ab\n ab", 2)

    def test_more_than_eight_rows_and_signs(self):
        self.bad("\n".join("a" * 9), 9)
        self.bad("a" * 9, 1)

    def test_str(self):
        self.assertEqual(str(Picture(["ab", "c."])), "ab\nc.")
        self.assertEqual(str(Picture(["a"])), "a")

    def test_str_is_what_read_takes(self):
        for text in ["a", ".", "ab\nc.", "abcdefgh\n........", "\n".join("abcdefgh")]:
            self.assertEqual(str(Picture.read(text)), text)
            self.assertEqual(Picture.read(str(Picture.read(text))), Picture.read(text))

    def test_read_is_a_class_method(self):
        self.assertIsInstance(vars(Picture)["read"], classmethod)


class Plain(SmaltiTest):
    def test_plain(self):
        self.assertEqual(Picture.plain(3, 2, "q").lines(), ["qqq", "qqq"])
        self.assertEqual(Picture.plain(1, 4, ".").lines(), [".", ".", ".", "."])
        self.assertEqual(Picture.plain(8, 8, "z").lines(), ["zzzzzzzz"] * 8)

    def test_size(self):
        picture = Picture.plain(3, 2, "q")
        self.assertEqual([picture.width, picture.height], [3, 2])

    def test_invalid_sign(self):
        for sign in NOT_A_SIGN:
            self.assert_error(InvalidSign(sign), Picture.plain, 2, 2, sign)

    def test_plain_is_a_class_method(self):
        self.assertIsInstance(vars(Picture)["plain"], classmethod)


class Signs(SmaltiTest):
    def setUp(self):
        self.picture = Picture.read("a.c\n.ef")

    def test_class_values(self):
        self.assertEqual([Picture.HOLE, Picture.EDGE], [".", "#"])
        self.assertEqual([self.picture.HOLE, self.picture.EDGE], [".", "#"])

    def test_signs_are_ordered_as_in_ascii(self):
        signs = [Picture.EDGE, Picture.HOLE, *string.ascii_lowercase]
        self.assertEqual(sorted(reversed(signs)), signs)

    def test_sign_at_each_cell(self):
        rows = [[self.picture[x, y] for x in range(3)] for y in range(2)]
        self.assertEqual(rows, [["a", ".", "c"], [".", "e", "f"]])

    def test_the_column_comes_first(self):
        self.assertEqual([self.picture[2, 0], self.picture[0, 1]], ["c", "."])
        cell = (2, 1)
        self.assertEqual(self.picture[cell], "f")

    def test_the_edge_outside(self):
        for cell in [(-1, 0), (0, -1), (3, 0), (0, 2), (-1, -1), (3, 2), (2, 2), (3, 1), (-3, -2)]:
            self.assertEqual(self.picture[cell], "#")

    def test_the_edge_far_away(self):
        for far in [10 ** 9, 2 ** 63, 2 ** 64, HUGE]:
            for cell in [(far, 0), (-far, 0), (0, far), (0, -far), (far, far), (-far, -far)]:
                self.assertEqual(self.picture[cell], "#")

    def test_contains(self):
        inside = [(x, y) for y in range(-3, 5) for x in range(-4, 6) if self.picture.contains(x, y)]
        self.assertEqual(inside, [(0, 0), (1, 0), (2, 0), (0, 1), (1, 1), (2, 1)])
        self.assertIs(self.picture.contains(0, 0), True)
        self.assertIs(self.picture.contains(3, 0), False)

    def test_contains_far_away(self):
        for far in [2 ** 64, HUGE]:
            for cell in [(far, 0), (-far, 0), (0, far), (0, -far)]:
                self.assertIs(self.picture.contains(*cell), False)

    def test_width_and_height(self):
        self.assertEqual([self.picture.width, self.picture.height], [3, 2])

    def test_len_is_the_number_of_stones(self):
        self.assertEqual(len(self.picture), 4)
        self.assertEqual([len(Picture.plain(8, 8, "a")), len(Picture.plain(8, 8, "."))], [64, 0])

    def test_stones_and_holes(self):
        self.assertEqual(self.picture.stones(), Region.of((0, 0), (2, 0), (1, 1), (2, 1)))
        self.assertEqual(self.picture.holes(), Region.of((1, 0), (0, 1)))

    def test_no_stones_and_no_holes(self):
        self.assertEqual(Picture.plain(2, 2, ".").stones(), Region([]))
        self.assertEqual(Picture.plain(2, 2, "a").holes(), Region([]))

    def test_all_cells_in_reading_order(self):
        self.assertEqual(self.picture.every_cell(), [(0, 0), (1, 0), (2, 0), (0, 1), (1, 1), (2, 1)])

    def test_a_picture_is_not_iterated_over(self):
        with self.assertRaises(TypeError):
            list(self.picture)


class Comparing(SmaltiTest):
    def test_equal(self):
        self.assertTrue(Picture(["ab", "c."]) == Picture.read("ab\nc."))
        self.assertFalse(Picture(["ab", "c."]) != Picture.read("ab\nc."))
        self.assertTrue(Picture.plain(2, 1, "a") == Picture(["aa"]))

    def test_unequal(self):
        self.assertTrue(Picture(["ab"]) != Picture(["ba"]))
        self.assertFalse(Picture(["ab"]) == Picture(["a."]))
        self.assertFalse(Picture(["ab"]) == Picture(["a", "b"]))
        self.assertFalse(Picture(["a"]) == Picture(["a", "a"]))

    def test_not_equal_to_a_value_of_another_kind(self):
        picture = Picture(["a"])
        for other in ["a", ["a"], ("a",), 1, None, True, Region.of((0, 0)), {"a": True}]:
            self.assertIs(picture == other, False)
            self.assertIs(other == picture, False)
            self.assertIs(picture != other, True)

    def test_difference(self):
        difference = Picture.read("abc\nd.f") - Picture.read("aac\n.ef")
        self.assertIsInstance(difference, Region)
        self.assertEqual(difference.cells(), [(1, 0), (0, 1), (1, 1)])

    def test_difference_of_equal_pictures(self):
        self.assertEqual(Picture(["a."]) - Picture(["a."]), Region([]))

    def test_difference_at_all_cells(self):
        cells = [(x, y) for y in range(8) for x in range(8)]
        self.assertEqual((Picture.plain(8, 8, "a") - Picture.plain(8, 8, ".")).cells(), cells)

    def test_difference_of_unequal_sizes(self):
        first = Picture.plain(2, 3, "a")
        for width, height in [(3, 3), (2, 2), (3, 2), (1, 3), (2, 4), (6, 1)]:
            other = Picture.plain(width, height, "a")
            self.assert_error(UnequalSize(), lambda a, b: a - b, first, other)
            self.assert_error(UnequalSize(), lambda a, b: a - b, other, first)


class WithSign(SmaltiTest):
    def setUp(self):
        self.picture = Picture.read("abc\nd.f")

    def test_each_cell(self):
        self.assertEqual(str(self.picture.with_sign(0, 0, "z")), "zbc\nd.f")
        self.assertEqual(str(self.picture.with_sign(1, 0, ".")), "a.c\nd.f")
        self.assertEqual(str(self.picture.with_sign(2, 0, "q")), "abq\nd.f")
        self.assertEqual(str(self.picture.with_sign(0, 1, "q")), "abc\nq.f")
        self.assertEqual(str(self.picture.with_sign(1, 1, "e")), "abc\ndef")
        self.assertEqual(str(self.picture.with_sign(2, 1, "a")), "abc\nd.a")

    def test_the_picture_does_not_change(self):
        changed = self.picture.with_sign(1, 1, "e")
        self.assertEqual(str(self.picture), "abc\nd.f")
        self.assertEqual([len(self.picture), len(changed)], [5, 6])

    def test_the_same_sign_gives_a_new_picture(self):
        same = self.picture.with_sign(0, 0, "a")
        self.assertEqual(same, self.picture)
        self.assertIsNot(same, self.picture)

    def test_out_of_picture(self):
        for x, y in [(-1, 0), (0, -1), (3, 0), (0, 2), (HUGE, 0), (0, -HUGE), (2 ** 64, 2 ** 64)]:
            self.assert_error(OutOfPicture(x, y), self.picture.with_sign, x, y, "a")

    def test_invalid_sign(self):
        for sign in NOT_A_SIGN:
            self.assert_error(InvalidSign(sign), self.picture.with_sign, 0, 0, sign)

    def test_out_of_picture_comes_first(self):
        self.assert_error(OutOfPicture(3, 1), self.picture.with_sign, 3, 1, "#")

    def test_an_error_does_not_change_the_picture(self):
        self.assert_error(InvalidSign("AB"), self.picture.with_sign, 0, 0, "AB")
        self.assertEqual(str(self.picture), "abc\nd.f")


class Copies(SmaltiTest):
    def test_the_given_list_is_copied(self):
        rows = ["ab", "c."]
        picture = Picture(rows)
        rows[0] = "zz"
        rows.append("##")
        self.assertEqual(str(picture), "ab\nc.")
        self.assertEqual([picture[0, 0], picture.height], ["a", 2])

    def test_the_given_list_is_not_modified(self):
        rows = ["ab", "c."]
        Picture(rows).with_sign(0, 0, "z")
        self.assertEqual(rows, ["ab", "c."])

    def test_the_returned_lists_are_new(self):
        picture = Picture(["ab", "c."])
        lines, cells = picture.lines(), picture.every_cell()
        lines[0] = "zz"
        lines.append("yy")
        cells.clear()
        self.assertEqual(picture.lines(), ["ab", "c."])
        self.assertEqual(picture, Picture(["ab", "c."]))
        self.assertEqual(len(picture.every_cell()), 4)


if __name__ == "__main__":
    unittest.main()
