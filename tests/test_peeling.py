"""smalti/peeling.py: waves and loosened cells (points 2, 33 to 35)."""

import inspect
import itertools
import unittest

from smalti.books import Book
from smalti.cells import Region
from smalti.errors import NoStone, OutOfPicture
from smalti.peeling import loose_waves, loosened, opening_rule, wave_of
from smalti.pictures import Picture
from smalti.rules import Rule, SameRule
from tests import oracle
from tests.helper import FAR, HUGE, SmaltiTest

CHAIN = Book.read("d all 1,0:c\nc all -1,0:b")
EIGHT = [(-1, -1), (0, -1), (1, -1), (-1, 0), (1, 0), (-1, 1), (0, 1), (1, 1)]


def shown(book, text, **more):
    return list(loose_waves(book, Picture.read(text), **more))


class Examples(SmaltiTest):
    def test_example_of_the_document(self):
        self.assertEqual(list(loose_waves(CHAIN, Picture.read("adc"))), [[(1, 0)], [(2, 0)]])


class Waves(SmaltiTest):
    def test_one_wave_in_reading_order(self):
        book = Book.read("a 0")
        self.assertEqual(shown(book, "aba\nca.\naab"), [[(0, 0), (2, 0), (1, 1), (0, 2), (1, 2)]])

    def test_several_waves(self):
        book = Book.read("a all\nb all -1,0:z\nc all -1,0:z\nd all -1,0:z")
        self.assertEqual(shown(book, "abcd"), [[(0, 0)], [(1, 0)], [(2, 0)], [(3, 0)]])
        self.assertEqual(shown(book, "bcda"), [[(3, 0)]])
        self.assertEqual(shown(book, "ab\nbc"), [[(0, 0)], [(1, 0)]])

    def test_a_cell_that_only_a_later_laid_neighbour_loosens(self):
        # The stone c does not fit beside the d, which was laid after it.
        self.assertEqual(shown(CHAIN, "adc"), [[(1, 0)], [(2, 0)]])
        self.assertEqual(shown(Book.read("c all -1,0:b"), "adc"), [])

    def test_two_neighbours_that_wait_for_each_other(self):
        book = Book.read("a all 1,0:z\nb all -1,0:z")
        self.assertEqual(shown(book, "ab"), [])
        self.assertEqual(shown(book, "a."), [[(0, 0)]])

    def test_no_stones(self):
        book = Book.read("same 0")
        self.assertEqual(shown(book, "."), [])
        self.assertEqual(list(loose_waves(book, Picture.plain(8, 8, "."))), [])

    def test_stones_only(self):
        self.assertEqual(shown(Book.read("same 0"), "ab\ncd"), [[(0, 0), (1, 0), (0, 1), (1, 1)]])

    def test_one_cell(self):
        self.assertEqual(shown(Book.read("a all"), "a"), [[(0, 0)]])
        self.assertEqual(shown(Book.read("b all"), "a"), [])
        self.assertEqual(shown(Book.read("a all"), "."), [])

    def test_a_book_without_rules(self):
        self.assertEqual(shown(Book([]), "ab\nc."), [])
        self.assertEqual(loosened(Book([]), Picture.plain(8, 8, "a")), Region([]))

    def test_rules_without_conditions(self):
        self.assertEqual(shown(Book.read("b all"), "abcb"), [[(1, 0), (3, 0)]])
        self.assertEqual(shown(Book.read("b 0"), "abcb"), [[(1, 0), (3, 0)]])
        self.assertEqual(shown(Book.read("same 0"), "a.b"), [[(0, 0), (2, 0)]])

    def test_the_edge(self):
        book = Book.read("a all -1,0:#")
        self.assertEqual(shown(book, "aaa\n.aa"), [[(0, 0), (1, 1)], [(1, 0), (2, 1)], [(2, 0)]])

    def test_the_edge_never_becomes_a_hole(self):
        book = Book.read("a all 1,0:a")
        self.assertEqual(shown(book, "aaa"), [[(0, 0), (1, 0)]])
        self.assertEqual(shown(Book.read("same 1 1,0"), "aa"), [[(0, 0)]])
        self.assertEqual(shown(Book.read("a 1 -3,0:z 3,0:z"), "aa"), [])

    def test_count_rules(self):
        book = Book.read("a 0\nb 2 -1,0:z 1,0:z 0,-1:z 0,1:z")
        self.assertEqual(shown(book, "aba"), [[(0, 0), (2, 0)], [(1, 0)]])
        self.assertEqual(shown(book, "abc"), [[(0, 0)]])
        self.assertEqual(shown(book, "ab."), [[(0, 0)], [(1, 0)]])

    def test_same_rules(self):
        book = Book.read("same 1 -1,0 1,0\nd all")
        self.assertEqual(shown(book, "aabdc"), [[(0, 0), (1, 0), (3, 0)], [(2, 0), (4, 0)]])

    def test_the_waves_are_lists_of_tuples(self):
        waves = shown(CHAIN, "adc")
        self.assertEqual([type(wave) for wave in waves], [list, list])
        self.assertEqual(type(waves[0][0]), tuple)

    def test_eight_waves_of_eight(self):
        book = Book.read("a all 0,-1:#")
        waves = list(loose_waves(book, Picture.plain(8, 8, "a")))
        self.assertEqual(waves, [[(x, y) for x in range(8)] for y in range(8)])

    def test_sixty_four_waves(self):
        book = Book.read("a all -1,0:# 0,-1:#\nb all 1,0:# 0,-1:#")
        picture = Picture(["aaaaaaaa", "bbbbbbbb"] * 4)
        snake = [(x if y % 2 == 0 else 7 - x, y) for y in range(8) for x in range(8)]
        self.assertEqual(list(loose_waves(book, picture)), [[cell] for cell in snake])
        self.assertEqual([wave_of(book, picture, x, y) for x, y in snake], list(range(1, 65)))
        self.assertEqual([opening_rule(book, picture, x, y) for x, y in snake], ([0] * 8 + [1] * 8) * 4)


class Held(SmaltiTest):
    def setUp(self):
        self.picture = Picture.read("adc\n...")

    def test_none_and_no_cells(self):
        waves = [[(1, 0)], [(2, 0)]]
        for more in [{}, {"held": None}, {"held": Region([])}]:
            self.assertEqual(list(loose_waves(CHAIN, self.picture, **more)), waves)
            self.assertEqual(loosened(CHAIN, self.picture, **more), Region.of((1, 0), (2, 0)))
            self.assertEqual(wave_of(CHAIN, self.picture, 2, 0, **more), 2)
            self.assertEqual(opening_rule(CHAIN, self.picture, 2, 0, **more), 1)

    def test_held_cells_are_not_loosened(self):
        self.assertEqual(list(loose_waves(CHAIN, self.picture, held=Region.of((2, 0)))), [[(1, 0)]])

    def test_held_cells_do_not_become_holes(self):
        self.assertEqual(list(loose_waves(CHAIN, self.picture, held=Region.of((1, 0)))), [])

    def test_holes_and_cells_outside_have_no_effect(self):
        held = Region([(0, 1), (1, 1), (-1, 0), (3, 0), (1, 2), (HUGE, 0), (1, -HUGE)])
        self.assertEqual(list(loose_waves(CHAIN, self.picture, held=held)), [[(1, 0)], [(2, 0)]])
        more = held | Region.of((2, 0))
        self.assertEqual(loosened(CHAIN, self.picture, held=more), Region.of((1, 0)))

    def test_all_stones_held(self):
        self.assertEqual(loosened(Book.read("same 0"), self.picture, held=self.picture.stones()), Region([]))

    def test_held_is_passed_by_keyword(self):
        for function in [loose_waves, loosened]:
            with self.assertRaises(TypeError):
                list(function(CHAIN, self.picture, None))
        for function in [wave_of, opening_rule]:
            with self.assertRaises(TypeError):
                function(CHAIN, self.picture, 0, 0, None)

    def test_nothing_is_modified(self):
        held = Region.of((2, 0), (9, 9))
        loosened(CHAIN, self.picture, held=held)
        self.assertEqual([held.cells(), str(self.picture)], [[(2, 0), (9, 9)], "adc\n..."])
        self.assertEqual(CHAIN.text(), "d all 1,0:c\nc all -1,0:b")


class Generators(SmaltiTest):
    def test_it_is_a_generator(self):
        self.assertTrue(inspect.isgenerator(loose_waves(CHAIN, Picture.read("adc"))))

    def test_one_that_is_read_in_part_has_no_effect_on_another(self):
        picture = Picture.read("adc")
        first, second = loose_waves(CHAIN, picture), loose_waves(CHAIN, picture)
        self.assertEqual(next(first), [(1, 0)])
        self.assertEqual(list(second), [[(1, 0)], [(2, 0)]])
        self.assertEqual(list(first), [[(2, 0)]])
        self.assertEqual(list(loose_waves(CHAIN, picture)), [[(1, 0)], [(2, 0)]])

    def test_yielded_lists_may_be_changed(self):
        picture = Picture.read("adc")
        waves = loose_waves(CHAIN, picture)
        next(waves).clear()
        self.assertEqual(list(waves), [[(2, 0)]])
        for wave in loose_waves(CHAIN, picture):
            wave.append((0, 0))
        self.assertEqual(list(loose_waves(CHAIN, picture)), [[(1, 0)], [(2, 0)]])


class Cells(SmaltiTest):
    def setUp(self):
        self.book = Book.read("x all\nd all 1,0:c\nc all -1,0:b\nd 0\nd all")
        self.picture = Picture.read("adc\n.a.")

    def test_wave_of(self):
        self.assertEqual([wave_of(self.book, self.picture, x, 0) for x in range(3)], [0, 1, 2])
        self.assertEqual(wave_of(self.book, self.picture, 1, 1), 0)

    def test_opening_rule_is_the_least_that_fits(self):
        self.assertEqual([opening_rule(self.book, self.picture, x, 0) for x in range(3)], [None, 1, 2])
        self.assertIsNone(opening_rule(self.book, self.picture, 1, 1))

    def test_opening_rule_with_all_earlier_waves_as_holes(self):
        book = Book.read("b all -1,0:z 1,0:z\nb all -1,0:z\na all\nc all -2,0:z")
        picture = Picture.read("abc")
        self.assertEqual([wave_of(book, picture, x, 0) for x in range(3)], [1, 2, 2])
        # Rule 0 would fit with the c as a hole, but the c is in the same wave.
        self.assertEqual(opening_rule(book, picture, 1, 0), 1)

    def test_held_cells(self):
        held = Region.of((1, 0))
        for x in range(3):
            self.assertEqual(wave_of(self.book, self.picture, x, 0, held=held), 0)
            self.assertIsNone(opening_rule(self.book, self.picture, x, 0, held=held))
        held = Region.of((2, 0))
        self.assertEqual([wave_of(self.book, self.picture, x, 0, held=held) for x in range(3)], [0, 1, 0])

    def test_no_stone(self):
        for function in [wave_of, opening_rule]:
            for x, y in [(0, 1), (2, 1)]:
                for held in [None, Region.of((x, y))]:
                    self.assert_error(NoStone(x, y), function, self.book, self.picture, x, y, held=held)
                self.assert_error(NoStone(x, y), function, Book([]), self.picture, x, y)

    def test_out_of_picture(self):
        for function in [wave_of, opening_rule]:
            for x, y in FAR:
                for held in [None, Region.of((x, y))]:
                    self.assert_error(OutOfPicture(x, y), function, self.book, self.picture, x, y, held=held)
                self.assert_error(OutOfPicture(x, y), function, Book([]), self.picture, x, y)


class Comparisons(SmaltiTest):
    def test_the_same_as_by_asking_the_book(self):
        for book, _, picture, held, _ in oracle.random_cases(33, 300):
            waves = oracle.waves(book, picture, held)
            self.assertEqual(list(loose_waves(book, picture, held=held)), waves)
            self.assertEqual(loosened(book, picture, held=held), oracle.loose(book, picture, held))
            self.compare_cells(book, picture, held, waves)

    def compare_cells(self, book, picture, held, waves):
        numbers = {cell: number for number, wave in enumerate(waves, start=1) for cell in wave}
        for x, y in picture.stones().cells():
            number = numbers.get((x, y), 0)
            self.assertEqual(wave_of(book, picture, x, y, held=held), number)
            earlier = Region([cell for wave in waves[:max(0, number - 1)] for cell in wave])
            fitting = book.fitting(picture, x, y, picture[x, y], loose=earlier)
            expected = fitting[0] if number > 0 else None
            self.assertEqual(opening_rule(book, picture, x, y, held=held), expected)

    def test_any_order_of_loosening_ends_with_the_same_cells(self):
        for book, _, picture, held, _ in oracle.random_cases(34, 60):
            expected = loosened(book, picture, held=held)
            for turn in itertools.islice(itertools.permutations(picture.stones().cells()), 0, 40, 13):
                self.assertEqual(self.loosen_one_at_a_time(book, picture, held, turn), expected)

    def loosen_one_at_a_time(self, book, picture, held, turn):
        done = Region([])
        found = True
        while found:
            found = False
            for x, y in turn:
                free = (x, y) not in done and (held is None or (x, y) not in held)
                if free and book.fitting(picture, x, y, picture[x, y], loose=done):
                    done |= Region.of((x, y))
                    found = True
        return done


class Largest(SmaltiTest):
    def test_the_largest_picture_and_book(self):
        rules = [SameRule(EIGHT, 8 - number % 3) for number in range(19)] + [Rule("a", [(0, -1, "#"), (-1, 0, "#")])]
        book, picture = Book(rules), Picture.plain(8, 8, "a")
        self.assertEqual(len(loosened(book, picture)), 64)
        for x, y in picture.every_cell():
            self.assertGreater(wave_of(book, picture, x, y), 0)

    def test_many_waves(self):
        conditions = [(dx, dy, "#") for dx, dy in [(-1, 0), (-2, 0), (-3, 0), (0, -1), (0, -2), (0, -3), (-1, -1), (-2, -2)]]
        book = Book([Rule("a", conditions)] * 20)
        picture = Picture.plain(8, 8, "a")
        waves = list(loose_waves(book, picture))
        self.assertEqual(waves, [[(x, n - x) for x in range(7, -1, -1) if 0 <= n - x <= 7] for n in range(15)])
        self.assertEqual(wave_of(book, picture, 7, 7), 15)
        self.assertEqual(opening_rule(book, picture, 7, 7), 0)


if __name__ == "__main__":
    unittest.main()
