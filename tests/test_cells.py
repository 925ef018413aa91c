"""smalti/cells.py: regions (points 2, 4 and 9)."""

import unittest

from smalti.cells import Region
from tests.helper import HUGE


class Cells(unittest.TestCase):
    def test_example_of_the_document(self):
        region = Region.of((2, 0), (0, 1), (1, 0)) - Region([(1, 0)])
        self.assertEqual(str(region), "2,0 0,1")

    def test_cells_are_in_reading_order(self):
        region = Region([(1, 1), (0, 2), (2, 0), (0, 1), (1, 0)])
        self.assertEqual(region.cells(), [(1, 0), (2, 0), (0, 1), (1, 1), (0, 2)])

    def test_negative_cells_are_in_reading_order(self):
        region = Region([(0, 0), (5, -1), (-3, 0), (-1, -2), (-2, -1)])
        self.assertEqual(region.cells(), [(-1, -2), (-2, -1), (5, -1), (-3, 0), (0, 0)])

    def test_minus_one_and_minus_two_stay_apart(self):
        region = Region.of((-1, -2), (-2, -1), (-1, -1), (-2, -2))
        self.assertEqual(region.cells(), [(-2, -2), (-1, -2), (-2, -1), (-1, -1)])

    def test_cells_are_ordered_as_numbers(self):
        region = Region.of((10, 0), (9, 0), (0, 10), (0, 9))
        self.assertEqual(region.cells(), [(9, 0), (10, 0), (0, 9), (0, 10)])

    def test_a_cell_given_twice_counts_once(self):
        region = Region([(1, 0), (0, 0), (1, 0), (1, 0)])
        self.assertEqual(region.cells(), [(0, 0), (1, 0)])
        self.assertEqual(len(region), 2)
        self.assertEqual(len(Region.of((4, 4), (4, 4))), 1)

    def test_cells_are_tuples(self):
        self.assertIs(type(Region.of((0, 1)).cells()[0]), tuple)
        self.assertIs(type(Region.of((0, 1)).cells()), list)

    def test_of_without_arguments_has_no_cells(self):
        self.assertEqual(Region.of().cells(), [])
        self.assertEqual(Region.of(), Region([]))

    def test_of_is_a_static_method(self):
        self.assertIsInstance(vars(Region)["of"], staticmethod)
        self.assertEqual(Region([]).of((1, 2), (0, 0)).cells(), [(0, 0), (1, 2)])


class Operators(unittest.TestCase):
    def setUp(self):
        self.left = Region.of((1, 0), (0, 0), (-1, 5))
        self.right = Region.of((2, 0), (1, 0), (-1, 5), (0, -4))

    def test_union(self):
        self.assertEqual((self.left | self.right).cells(), [(0, -4), (0, 0), (1, 0), (2, 0), (-1, 5)])

    def test_intersection(self):
        self.assertEqual((self.left & self.right).cells(), [(1, 0), (-1, 5)])

    def test_difference(self):
        self.assertEqual((self.left - self.right).cells(), [(0, 0)])
        self.assertEqual((self.right - self.left).cells(), [(0, -4), (2, 0)])

    def test_symmetric_difference(self):
        self.assertEqual((self.left ^ self.right).cells(), [(0, -4), (0, 0), (2, 0)])

    def test_operators_with_the_region_without_cells(self):
        none = Region([])
        self.assertEqual([self.left | none, none | self.left], [self.left, self.left])
        self.assertEqual([self.left & none, none & self.left], [none, none])
        self.assertEqual([self.left - none, none - self.left], [self.left, none])
        self.assertEqual([self.left ^ none, none ^ self.left], [self.left, self.left])

    def test_operators_of_a_region_with_itself(self):
        left = self.left
        self.assertEqual([left | left, left & left], [left, left])
        self.assertEqual([left - left, left ^ left], [Region([]), Region([])])

    def test_operators_do_not_change_their_regions(self):
        _ = [self.left | self.right, self.left & self.right]
        _ = [self.left - self.right, self.left ^ self.right]
        self.assertEqual(self.left.cells(), [(0, 0), (1, 0), (-1, 5)])
        self.assertEqual(self.right.cells(), [(0, -4), (1, 0), (2, 0), (-1, 5)])

    def in_place(self, change, expected):
        before = self.left
        after = change(self.left)
        self.assertEqual(after.cells(), expected)
        self.assertIsNot(after, before)
        self.assertEqual(before.cells(), [(0, 0), (1, 0), (-1, 5)])

    def test_in_place_forms_bind_a_new_region(self):
        def unite(region):
            region |= self.right
            return region

        def intersect(region):
            region &= self.right
            return region

        def subtract(region):
            region -= self.right
            return region

        def differ(region):
            region ^= self.right
            return region

        self.in_place(unite, [(0, -4), (0, 0), (1, 0), (2, 0), (-1, 5)])
        self.in_place(intersect, [(1, 0), (-1, 5)])
        self.in_place(subtract, [(0, 0)])
        self.in_place(differ, [(0, -4), (0, 0), (2, 0)])

    def test_in_place_forms_bind_a_new_region_when_no_cell_changes(self):
        region = before = Region.of((1, 1))
        region |= Region([])
        self.assertIsNot(region, before)
        self.assertEqual(region, before)
        region = before
        region -= Region([])
        self.assertIsNot(region, before)
        self.assertEqual(region, before)


class Questions(unittest.TestCase):
    def test_in(self):
        region = Region.of((1, 0), (-2, 3))
        self.assertIs((1, 0) in region, True)
        self.assertIs((-2, 3) in region, True)
        self.assertIs((0, 1) in region, False)
        self.assertIs((3, -2) not in region, True)
        self.assertIs((0, 0) in Region([]), False)

    def test_len(self):
        self.assertEqual([len(Region([])), len(Region.of((0, 0), (7, -7)))], [0, 2])

    def test_truth_value(self):
        self.assertIs(bool(Region([])), False)
        self.assertIs(bool(Region.of((0, 0))), True)

    def test_equal(self):
        self.assertTrue(Region([(0, 0), (1, 0)]) == Region.of((1, 0), (0, 0), (1, 0)))
        self.assertFalse(Region([(0, 0), (1, 0)]) != Region.of((1, 0), (0, 0)))
        self.assertTrue(Region([]) == Region.of())

    def test_unequal(self):
        self.assertTrue(Region([(0, 1)]) != Region([(1, 0)]))
        self.assertFalse(Region([(0, 1)]) == Region([(1, 0)]))
        self.assertFalse(Region([(0, 1)]) == Region([(0, 1), (1, 0)]))
        self.assertFalse(Region([]) == Region([(0, 0)]))

    def test_not_equal_to_a_value_of_another_kind(self):
        for other in [[(0, 0)], ((0, 0),), {(0, 0)}, {(0, 0): True}, "0,0", (0, 0), 1, None, True]:
            self.assertIs(Region.of((0, 0)) == other, False)
            self.assertIs(other == Region.of((0, 0)), False)
            self.assertIs(Region.of((0, 0)) != other, True)
        for other in [[], (), "", "-", 0, None, False]:
            self.assertIs(Region([]) == other, False)

    def test_within(self):
        small, large = Region.of((1, 0)), Region.of((1, 0), (0, -1))
        self.assertIs(small.within(large), True)
        self.assertIs(large.within(small), False)
        self.assertIs(large.within(large), True)
        self.assertIs(small.within(Region.of((0, 1), (2, 2))), False)

    def test_within_of_the_region_without_cells(self):
        self.assertIs(Region([]).within(Region([])), True)
        self.assertIs(Region([]).within(Region.of((0, 0))), True)
        self.assertIs(Region.of((0, 0)).within(Region([])), False)

    def test_str(self):
        self.assertEqual(str(Region([(3, 1), (12, 0), (0, 1)])), "12,0 0,1 3,1")
        self.assertEqual(str(Region.of((-1, -2))), "-1,-2")
        self.assertEqual(str(Region.of((0, 0))), "0,0")

    def test_str_without_cells(self):
        self.assertEqual(str(Region([])), "-")


class Copies(unittest.TestCase):
    def test_the_given_list_is_not_modified(self):
        given = [(1, 0), (0, 0), (1, 0)]
        Region(given)
        self.assertEqual(given, [(1, 0), (0, 0), (1, 0)])

    def test_the_given_list_is_copied(self):
        given = [(1, 0), (0, 0)]
        region = Region(given)
        given.append((5, 5))
        given[0] = (9, 9)
        self.assertEqual(region.cells(), [(0, 0), (1, 0)])
        self.assertEqual(len(region), 2)
        self.assertTrue((1, 0) in region)

    def test_the_returned_list_is_new(self):
        region = Region.of((1, 0), (0, 0))
        returned = region.cells()
        returned.append((5, 5))
        returned[0] = (9, 9)
        self.assertEqual(region.cells(), [(0, 0), (1, 0)])
        self.assertIsNot(region.cells(), region.cells())


class AnyIntegers(unittest.TestCase):
    def test_large_coordinates(self):
        far = 10 ** 30
        region = Region.of((far, 0), (0, far), (-far, 0), (far + 1, 0), (0, -far))
        expected = [(0, -far), (-far, 0), (far, 0), (far + 1, 0), (0, far)]
        self.assertEqual(region.cells(), expected)
        self.assertEqual(str(region - Region.of((0, far), (0, -far))), f"{-far},0 {far},0 {far + 1},0")

    def test_digits_in_the_middle_are_kept(self):
        for number in [10 ** 18, 10 ** 18 - 1, 10 ** 36 + 7, 10 ** 36 - 1, 12345678901234567890123]:
            region = Region.of((number, -number))
            self.assertEqual(str(region), f"{number},{-number}")

    def test_coordinates_of_thousands_of_digits(self):
        region = Region.of((HUGE, -HUGE), (HUGE + 1, 0))
        zeros = "0" * 4999
        self.assertEqual(str(region), f"1{zeros}0,-1{zeros}0 1{zeros}1,0")
        self.assertTrue((HUGE, -HUGE) in region)
        self.assertFalse((HUGE, HUGE) in region)


if __name__ == "__main__":
    unittest.main()
