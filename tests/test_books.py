"""smalti/books.py: rule books (points 2, 19 and 20)."""

import unittest

from smalti.books import Book
from smalti.cells import Region
from smalti.errors import InvalidBook, NoRule, OutOfPicture
from smalti.pictures import Picture
from smalti.rules import CountRule, Rule, SameRule
from tests.helper import HUGE, SmaltiTest

LETTERS = "abcdefghijklmnopqrstuvwxyz"


def lines(count):
    return [f"{letter} all 1,0:b" for letter in LETTERS[:count]]


def rules(count):
    return [Rule(letter, [(1, 0, "b")]) for letter in LETTERS[:count]]


class Making(SmaltiTest):
    def test_text_writes_the_rules(self):
        given = [Rule("a", [(1, 0, "cb")]), CountRule("b", [], 0), SameRule([(0, 1), (0, -1)], 1)]
        self.assertEqual(Book(given).text(), "a all 1,0:bc\nb 0\nsame 1 0,-1 0,1")

    def test_number_of_rules(self):
        for count in [0, 1, 2, 19, 20]:
            book = Book(rules(count))
            self.assertEqual(len(book), count)
            self.assertEqual(book.text(), "\n".join(lines(count)))

    def test_too_many_rules(self):
        self.assert_error(InvalidBook(21), Book, rules(21))
        self.assert_error(InvalidBook(21), Book, rules(26))

    def test_the_same_rule_may_come_again(self):
        rule = Rule("a", [])
        self.assertEqual(Book([rule, rule]).text(), "a all\na all")


class Reading(SmaltiTest):
    def bad(self, text, line):
        self.assert_error(InvalidBook(line), Book.read, text)

    def test_example_of_the_document(self):
        self.bad("a all 1,0:b\n\nb 0", 2)

    def test_read(self):
        book = Book.read("a all 1,0:cb\nb 1 0,1:a -1,0:#\nsame 2 1,0 -1,0")
        self.assertEqual([type(book.rule(number)) for number in range(3)], [Rule, CountRule, SameRule])
        self.assertEqual(book.text(), "a all 1,0:bc\nb 1 -1,0:# 0,1:a\nsame 2 -1,0 1,0")

    def test_the_empty_text(self):
        self.assertEqual([len(Book.read("")), Book.read("").text()], [0, ""])

    def test_the_text_of_a_book_is_read_again(self):
        text = "\n".join(lines(20))
        self.assertEqual(Book.read(text).text(), text)

    def test_a_newline_at_the_end(self):
        self.bad("a all\n", 2)
        self.bad("\n", 1)
        self.bad("\n".join(lines(19)) + "\n", 20)
        self.bad("\n".join(lines(20)) + "\n", 21)

    def test_empty_lines(self):
        self.bad("\na all", 1)
        self.bad("a all\n\nb all", 2)
        self.bad("\n\n", 1)

    def test_the_first_refused_line(self):
        self.bad("a all\nb all\nc\nd all x\n", 3)
        self.bad("a all 4,0:b\nx", 1)
        self.bad("a all\nb 1", 2)
        self.bad("a all ", 1)
        self.bad("a all\r\nb all", 1)

    def test_more_than_twenty_lines(self):
        self.bad("\n".join(lines(21)), 21)
        self.bad("\n".join(lines(26)), 21)
        self.bad("\n".join(lines(20) + ["x"]), 21)
        self.bad("\n".join(lines(22) + ["x"]), 21)

    def test_a_refused_line_before_the_twenty_first(self):
        self.bad("\n".join(lines(19) + ["x"] + lines(5)), 20)
        self.bad("\n".join(["x"] + lines(26)), 1)

    def test_read_is_a_class_method(self):
        self.assertIsInstance(vars(Book)["read"], classmethod)


class Sums(SmaltiTest):
    def test_rules_of_both(self):
        first, second = Book.read("a all\nb all"), Book.read("c 0\na all")
        self.assertEqual((first + second).text(), "a all\nb all\nc 0\na all")
        self.assertEqual((second + first).text(), "c 0\na all\na all\nb all")

    def test_the_books_do_not_change(self):
        first, second = Book.read("a all"), Book.read("c 0")
        both = first + second
        self.assertEqual([len(both), len(first), len(second)], [2, 1, 1])
        total = first
        total += second
        self.assertEqual([total.text(), first.text()], ["a all\nc 0", "a all"])

    def test_without_rules(self):
        none, one = Book([]), Book.read("a all")
        self.assertEqual([(none + one).text(), (one + none).text(), (none + none).text()], ["a all", "a all", ""])

    def test_twenty_and_more(self):
        self.assertEqual(len(Book(rules(12)) + Book(rules(8))), 20)
        self.assertEqual(len(Book(rules(20)) + Book([])), 20)
        for first, second in [(12, 9), (20, 1), (1, 20), (20, 20)]:
            self.assert_error(InvalidBook(21), lambda a, b: a + b, Book(rules(first)), Book(rules(second)))


class Numbers(SmaltiTest):
    def test_rule(self):
        given = rules(20)
        book = Book(given)
        for number in range(20):
            self.assertIs(book.rule(number), given[number])

    def test_no_rule(self):
        for count in [0, 1, 3, 20]:
            for number in [-1, -2, -count, count, count + 1, 99, HUGE, -HUGE]:
                if number != 0 or count == 0:
                    self.assert_error(NoRule(number), Book(rules(count)).rule, number)

    def test_first_and_last(self):
        book = Book(rules(3))
        self.assertEqual([book.rule(0).stone, book.rule(2).stone], ["a", "c"])
        self.assert_error(NoRule(3), book.rule, 3)
        self.assert_error(NoRule(-1), book.rule, -1)


class Fitting(SmaltiTest):
    def setUp(self):
        self.book = Book.read("a all 1,0:b\nb all\na 0 1,0:b\na all 1,0:c\nsame 1 1,0\na all -1,0:#")
        self.picture = Picture.read(".ba")

    def test_the_numbers_ascend(self):
        self.assertEqual(self.book.fitting(self.picture, 0, 0, "a"), [0, 2, 5])
        self.assertEqual(self.book.fitting(self.picture, 0, 0, "b"), [1, 4])
        self.assertEqual(self.book.fitting(self.picture, 1, 0, "a"), [2, 4, 5])

    def test_loose(self):
        loose = Region.of((1, 0))
        self.assertEqual(self.book.fitting(self.picture, 0, 0, "a", loose=loose), [0, 2, 3, 4, 5])
        self.assertEqual(self.book.fitting(self.picture, 0, 0, "a", loose=Region([])), [0, 2, 5])
        self.assertEqual(self.book.fitting(self.picture, 0, 0, "a", loose=None), [0, 2, 5])
        self.assertEqual(self.book.fitting(self.picture, 2, 0, "c", loose=Region.of((3, 0))), [])

    def test_a_text_that_is_not_one_letter(self):
        for stone in ["", "#", ".", "ab", "A"]:
            self.assertEqual(self.book.fitting(self.picture, 0, 0, stone), [])

    def test_out_of_picture(self):
        for x, y in [(-1, 0), (0, -1), (3, 0), (0, 1), (HUGE, 0), (0, -HUGE)]:
            for book in [self.book, Book([])]:
                for stone in ["a", "q", ""]:
                    self.assert_error(OutOfPicture(x, y), book.fitting, self.picture, x, y, stone)
                    self.assert_error(OutOfPicture(x, y), book.fitting, self.picture, x, y, stone, loose=Region([]))

    def test_without_rules(self):
        self.assertEqual(Book([]).fitting(self.picture, 0, 0, "a"), [])

    def test_loose_is_passed_by_keyword(self):
        with self.assertRaises(TypeError):
            self.book.fitting(self.picture, 0, 0, "a", Region([]))


class Copies(SmaltiTest):
    def test_the_given_list_is_copied(self):
        given = rules(2)
        book = Book(given)
        given.append(Rule("z", []))
        given[0] = Rule("y", [])
        self.assertEqual(book.text(), "\n".join(lines(2)))
        self.assertEqual(len(book), 2)

    def test_the_given_list_is_not_modified(self):
        given = rules(2)
        before = list(given)
        _ = Book(given) + Book(given)
        self.assertEqual(given, before)

    def test_the_returned_list_is_new(self):
        book = Book.read("a all\na all")
        picture = Picture.read(".")
        found = book.fitting(picture, 0, 0, "a")
        found.clear()
        self.assertEqual(book.fitting(picture, 0, 0, "a"), [0, 1])


if __name__ == "__main__":
    unittest.main()
