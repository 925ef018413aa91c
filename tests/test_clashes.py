"""smalti/clashes.py: clashes (points 2, 38 and 39)."""

import unittest

from smalti.books import Book
from smalti.cells import Region
from smalti.clashes import Clash, check_clash, clash_of
from smalti.errors import NoStone, NotOld, OutOfPicture
from smalti.pictures import Picture
from smalti.rules import CountRule, SameRule
from tests import oracle
from tests.helper import FAR, HUGE, SmaltiTest

BOOK = Book.read("d all 1,0:c\nc all -1,0:b")


class Examples(SmaltiTest):
    def test_example_of_the_document(self):
        book = Book.read("a 1 1,0:c 2,0:b")
        clash = Clash(Region.of((0, 0), (1, 0)), [(0, 0, 0, [(2, 0), (1, 0)])])
        shown = [check_clash(book, Picture.read("ab"), clash), check_clash(book, Picture.read("abb"), clash)]
        self.assertEqual(shown, [True, False])


class Making(SmaltiTest):
    def test_attributes(self):
        region, refusals = Region.of((0, 0)), [(0, 0, 1, [(1, 0), (0, 1)]), (0, 0, 2, [])]
        clash = Clash(region, refusals)
        self.assertEqual([clash.region, clash.refusals], [region, refusals])
        self.assertEqual([type(clash.refusals), type(clash.refusals[0])], [list, tuple])

    def test_the_lists_are_copied(self):
        places = [(1, 0), (0, 1)]
        refusals = [(0, 0, 1, places)]
        clash = Clash(Region.of((0, 0)), refusals)
        places.clear()
        refusals.clear()
        self.assertEqual(clash.refusals, [(0, 0, 1, [(1, 0), (0, 1)])])

    def test_nothing_is_checked(self):
        for region in [Region([]), Region.of((-5, HUGE))]:
            for refusals in [[], [(HUGE, -HUGE, -7, [(0, 0), (0, 0)])]]:
                clash = Clash(region, refusals)
                self.assertEqual([clash.region, clash.refusals], [region, refusals])


class Checking(SmaltiTest):
    """A picture with a clash that has a place of each kind."""

    def setUp(self):
        # Rule 0 and 2 lay the a, rule 1 another stone, rule 3 every one.
        self.book = Book.read("a 2 -1,0:b 1,0:c 0,1:d\nc all\na all -1,0:z 1,0:z\nsame 1 -1,0 1,0\nb 0 1,0:b")
        self.picture = Picture.read("xay\n..b\nxxx")
        self.region = Region.of((0, 0), (1, 0), (2, 0))
        self.first = [(0, 0, 3, [(-1, 0), (1, 0)])]
        self.middle = [(1, 0, 0, [(0, 0), (2, 0)]), (1, 0, 2, [(0, 0)]), (1, 0, 3, [(2, 0), (0, 0)])]
        self.last = [(2, 0, 3, [(1, 0), (3, 0)])]
        self.refusals = self.first + self.middle + self.last

    def check(self, refusals, region=None, **more):
        clash = Clash(self.region if region is None else region, refusals)
        return check_clash(self.book, self.picture, clash, **more)

    def replaced(self, number, places):
        """The refusals, with other places for the rule with that number at the cell in the middle."""
        return [(x, y, n, places if (x, n) == (1, number) else old) for x, y, n, old in self.refusals]

    def test_valid(self):
        self.assertIs(self.check(self.refusals), True)
        self.assertIs(self.check(self.refusals[::-1]), True)

    def test_the_region_without_cells(self):
        self.assertIs(self.check([], Region([])), True)
        self.assertIs(self.check(self.first, Region([])), False)

    def test_a_missing_refusal(self):
        for at in range(len(self.refusals)):
            self.assertIs(self.check(self.refusals[:at] + self.refusals[at + 1:]), False)
        self.assertIs(self.check([]), False)

    def test_a_doubled_refusal(self):
        for refusal in self.refusals:
            self.assertIs(self.check(self.refusals + [refusal]), True)
            self.assertIs(self.check([refusal] + self.refusals), True)
        self.assertIs(self.check(self.refusals + [(1, 0, 2, [(2, 0)])]), True)

    def test_a_doubled_refusal_that_is_wrong(self):
        self.assertIs(self.check(self.refusals + [(1, 0, 2, [])]), False)
        self.assertIs(self.check([(1, 0, 2, [(1, 1)])] + self.refusals), False)

    def test_a_rule_that_does_not_lay_the_stone(self):
        self.assertIs(self.check(self.refusals + [(1, 0, 1, [(0, 0)])]), False)
        self.assertIs(self.check(self.refusals + [(1, 0, 1, [])]), False)
        self.assertIs(self.check(self.refusals + [(0, 0, 0, [(1, 0), (-1, 0)])]), False)

    def test_a_number_that_is_not_in_the_book(self):
        for number in [-1, -2, -5, 5, 6, 20, HUGE, -HUGE]:
            self.assertIs(self.check(self.refusals + [(1, 0, number, [(0, 0), (2, 0)])]), False)

    def test_a_cell_that_is_not_in_the_region(self):
        for x, y in [(2, 1), (0, 1), (0, 2), (-1, 0), (3, 0), (HUGE, -HUGE)]:
            self.assertIs(self.check(self.refusals + [(x, y, 3, [(x - 1, y), (x + 1, y)])]), False)

    def test_a_place_twice(self):
        self.assertIs(self.check(self.replaced(0, [(0, 0), (0, 0)])), False)
        self.assertIs(self.check(self.replaced(0, [(0, 0), (2, 0), (0, 0)])), False)
        self.assertIs(self.check(self.replaced(2, [(0, 0), (0, 0)])), False)

    def test_too_few_places(self):
        for number in [0, 3]:
            self.assertIs(self.check(self.replaced(number, [])), False)
        self.assertIs(self.check(self.replaced(2, [])), False)
        self.book = Book.read("a 1 -1,0:b 1,0:c 0,1:d -2,0:q\nc all\na all -1,0:z 1,0:z\nsame 1 -1,0 1,0\nb 0 1,0:b")
        self.assertIs(self.check(self.replaced(0, [(0, 0), (2, 0)])), False)
        self.assertIs(self.check(self.replaced(0, [(0, 0), (2, 0), (-1, 0)])), False)
        self.book = Book.read("a 2 -1,0:b 1,0:c 0,1:d -2,0:q\nc all\na all -1,0:z 1,0:z\nsame 1 -1,0 1,0\nb 0 1,0:b")
        self.assertIs(self.check(self.replaced(0, [(0, 0), (2, 0)])), False)
        self.assertIs(self.check(self.replaced(0, [(0, 0), (2, 0), (-1, 0)])), True)

    def test_more_places_than_needed(self):
        self.assertIs(self.check(self.replaced(2, [(2, 0), (0, 0)])), True)

    def test_a_place_that_does_not_clash(self):
        self.assertIs(self.check(self.replaced(2, [(0, 0), (1, 1)])), False)
        self.assertIs(self.check(self.replaced(0, [(0, 0), (2, 0), (1, 1)])), False)
        self.book = Book.read("a 2 -1,0:b 1,0:y 0,1:d\nc all\na all -1,0:z 1,0:z\nsame 1 -1,0 1,0\nb 0 1,0:b")
        self.assertIs(self.check(self.refusals), False)

    def test_a_place_that_no_condition_looks_at(self):
        for place in [(1, 0), (0, 1), (3, 0), (-1, 0), (HUGE, 0), (1, -1)]:
            self.assertIs(self.check(self.replaced(2, [(0, 0), place])), False)

    def test_a_place_in_the_picture_but_not_in_the_region(self):
        region = Region.of((0, 0), (1, 0))
        self.assertIs(self.check(self.first + self.middle, region), False)
        both = self.first + [(1, 0, 2, [(0, 0)])]
        self.book = Book.read("b all\nb all\na all -1,0:z 1,0:z\nsame 1 -1,0 1,0")
        self.assertIs(self.check(both + [(1, 0, 3, [(0, 0), (2, 0)])], region), False)
        self.book = Book.read("b all\nb all\na all -1,0:z 1,0:z\nsame 2 -1,0 1,0")
        self.assertIs(self.check(both + [(1, 0, 3, [(0, 0)])], region), True)
        self.assertIs(self.check(both + [(1, 0, 3, [(0, 0), (2, 0)])], region), False)

    def test_places_outside_of_the_picture(self):
        book, picture = Book.read("a all -1,0:a 0,-1:a 3,0:a"), Picture.read("a")
        for place in [(-1, 0), (0, -1), (3, 0)]:
            clash = Clash(Region.of((0, 0)), [(0, 0, 0, [place])])
            self.assertIs(check_clash(book, picture, clash), True)
        for place in [(1, 0), (-2, 0), (0, 0), (4, 0)]:
            clash = Clash(Region.of((0, 0)), [(0, 0, 0, [place])])
            self.assertIs(check_clash(book, picture, clash), False)

    def test_the_edge_may_be_allowed(self):
        clash = Clash(Region.of((0, 0)), [(0, 0, 0, [(-1, 0)])])
        self.assertIs(check_clash(Book.read("a all -1,0:#"), Picture.read("a"), clash), False)

    def test_a_region_with_holes_or_cells_outside(self):
        for cell in [(0, 1), (1, 1), (-1, 0), (3, 0), (0, 3), (HUGE, 0), (0, -HUGE)]:
            region = self.region | Region.of(cell)
            self.assertIs(self.check(self.refusals, region), False)
            self.assertIs(self.check(self.refusals, region, held=Region.of(cell)), False)
            self.assertIs(self.check([], Region.of(cell)), False)

    def test_held_cells_need_no_refusal(self):
        held = Region.of((1, 0))
        self.assertIs(self.check(self.first + self.last, held=held), True)
        self.assertIs(self.check(self.first + self.last), False)
        self.assertIs(self.check(self.first, held=held), False)
        self.assertIs(self.check([], held=self.picture.stones()), True)
        self.assertIs(self.check([], self.picture.stones(), held=self.picture.stones()), True)
        self.assertIs(self.check([], Region.of((1, 0)), held=held), True)

    def test_refusals_of_held_cells_are_checked(self):
        held = Region.of((1, 0))
        self.assertIs(self.check(self.refusals, held=held), True)
        self.assertIs(self.check(self.first + self.last + [(1, 0, 2, [])], held=held), False)
        self.assertIs(self.check(self.first + self.last + [(1, 0, 1, [(0, 0)])], held=held), False)

    def test_held_holes_and_cells_outside_have_no_effect(self):
        held = Region.of((0, 1), (1, 1), (-1, 0), (HUGE, 0))
        for more in [{}, {"held": None}, {"held": Region([])}, {"held": held}]:
            self.assertIs(self.check(self.refusals, **more), True)
            self.assertIs(self.check(self.first, **more), False)

    def test_held_places_must_be_in_the_region(self):
        region, refusals = Region.of((0, 0)), [(0, 0, 3, [(-1, 0), (1, 0)])]
        self.assertIs(self.check(refusals, region, held=Region.of((1, 0))), False)

    def test_a_book_without_rules(self):
        clash = Clash(self.picture.stones(), [])
        self.assertIs(check_clash(Book([]), self.picture, clash), True)
        self.assertIs(check_clash(Book([]), self.picture, Clash(self.region, self.first)), False)

    def test_stones_that_no_rule_lays(self):
        clash = Clash(Region.of((0, 0), (2, 0)), [])
        self.assertIs(check_clash(Book.read("a all\nb 0"), self.picture, clash), True)

    def test_rules_that_always_fit(self):
        for line in ["a all", "a 0", "same 0", "a 0 1,0:z"]:
            for places in [[], [(2, 0)], [(2, 0), (1, 0)]]:
                clash = Clash(self.region, [(1, 0, 0, places)] + [(x, 0, 0, places) for x in (0, 2)])
                self.assertIs(check_clash(Book.read(line), self.picture, clash), False)


class Finding(SmaltiTest):
    def found(self, book, picture, x, y, **more):
        clash = clash_of(book, picture, x, y, **more)
        self.assertIsInstance(clash, Clash)
        self.assertEqual([type(clash.region), type(clash.refusals)], [Region, list])
        self.assertIn((x, y), clash.region)
        self.assertIs(check_clash(book, picture, clash, **more), True)
        return clash

    def test_each_cell_that_is_not_loosened(self):
        picture = Picture.read("adc\ndcb")
        loose = oracle.loose(BOOK, picture)
        self.assertEqual(loose, Region.of((1, 0), (2, 0), (0, 1), (1, 1)))
        for x, y in picture.every_cell():
            if (x, y) in loose:
                self.assert_error(NotOld(x, y), clash_of, BOOK, picture, x, y)
            else:
                self.found(BOOK, picture, x, y)

    def test_held_cells(self):
        picture = Picture.read("adc")
        for held in [Region.of((1, 0)), picture.stones(), Region.of((1, 0), (HUGE, 0), (0, 3))]:
            for x in range(3):
                self.found(BOOK, picture, x, 0, held=held)
        self.found(BOOK, picture, 2, 0, held=Region.of((2, 0)))
        self.assert_error(NotOld(1, 0), clash_of, BOOK, picture, 1, 0, held=Region.of((2, 0)))
        for held in [None, Region([]), Region.of((0, 0)), Region.of((2, 1))]:
            self.assert_error(NotOld(2, 0), clash_of, BOOK, picture, 2, 0, held=held)

    def test_out_of_picture(self):
        for x, y in FAR:
            for book in [BOOK, Book([])]:
                self.assert_error(OutOfPicture(x, y), clash_of, book, Picture.read("adc\n..."), x, y)
                self.assert_error(OutOfPicture(x, y), clash_of, book, Picture.read("..."), x, y, held=Region.of((x, y)))

    def test_no_stone(self):
        for x, y in [(0, 1), (2, 1)]:
            for book in [BOOK, Book([]), Book.read("same 0")]:
                self.assert_error(NoStone(x, y), clash_of, book, Picture.read("adc\n..."), x, y)
                held = Region.of((x, y))
                self.assert_error(NoStone(x, y), clash_of, book, Picture.read("adc\n..."), x, y, held=held)

    def test_two_stones_that_wait_for_each_other(self):
        book, picture = Book.read("a all 1,0:z\nb all -1,0:z"), Picture.read("ab")
        self.assertEqual(self.found(book, picture, 0, 0).region, Region.of((0, 0), (1, 0)))

    def test_the_edge(self):
        book = Book.read("a all -1,0:a 1,0:b\na 2 1,0:z 2,0:z 3,0:z")
        clash = self.found(book, Picture.read("a"), 0, 0)
        self.assertEqual(clash.region, Region.of((0, 0)))

    def test_each_call_returns_new_lists(self):
        picture = Picture.read("a.")
        book = Book.read("a all -1,0:z")
        clash = self.found(book, picture, 0, 0)
        clash.refusals[0][3].clear()
        clash.refusals.clear()
        self.found(book, picture, 0, 0)

    def test_with_many_cases(self):
        for book, _, picture, held, _ in oracle.random_cases(39, 300):
            loose = oracle.loose(book, picture, held)
            for x, y in picture.stones().cells():
                if (x, y) in loose:
                    self.assert_error(NotOld(x, y), clash_of, book, picture, x, y, held=held)
                else:
                    clash = self.found(book, picture, x, y, held=held)
                    self.check_that_each_refusal_counts(book, picture, clash, held)

    def check_that_each_refusal_counts(self, book, picture, clash, held):
        for at, (x, y, number, _) in enumerate(clash.refusals):
            others = clash.refusals[:at] + clash.refusals[at + 1:]
            still = (held is not None and (x, y) in held) or (x, y, number) in [refusal[:3] for refusal in others]
            self.assertIs(check_clash(book, picture, Clash(clash.region, others), held=held), still)

    def test_the_largest_picture_and_book(self):
        eight = [(dx, dy) for dx in (-1, 0, 1) for dy in (-1, 0, 1) if (dx, dy) != (0, 0)]
        rules = [SameRule(eight, 7)] * 10 + [CountRule("a", [(dx, dy, "bc") for dx, dy in eight], 5)] * 10
        book = Book(rules)
        picture = Picture(["abababab", "babababa"] * 4)
        for x, y in [(0, 0), (3, 4), (7, 7)]:
            self.found(book, picture, x, y)
        everything = Picture(["abcdefgh", "hgfedcba"] * 4)
        for x, y in everything.every_cell():
            self.found(book, everything, x, y, held=Region.of((0, 0)))


if __name__ == "__main__":
    unittest.main()
