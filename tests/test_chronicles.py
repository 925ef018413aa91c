"""smalti/chronicles.py: rows of photographs (points 2 and 61 to 65)."""

import random
import time
import unittest

from smalti.books import Book
from smalti.cells import Region
from smalti.chronicles import Chronicle
from smalti.counting import fewest
from smalti.errors import Impossible, NoPhotograph, NoStone, NothingToUndo, OutOfPicture, TooManyCases, UnequalSize
from smalti.histories import check_history, history_mending
from smalti.inquiries import Inquiry
from smalti.pictures import Picture
from smalti.rules import Rule, SameRule
from smalti.sketches import Sketch
from tests import oracle
from tests.helper import FAR, HUGE, SmaltiTest

BOOK = Book.read("d all 1,0:c\nc all -1,0:b")
ANY = Book.read("same 0")
NONE = Region([])

FIRST, SECOND, THIRD = [Picture.read(text) for text in ["adb", "adc", "adb"]]


def chronicle_of(book, sketch, *pictures):
    """A chronicle with the photographs."""
    chronicle = Chronicle(book, sketch)
    for picture in pictures:
        chronicle.show(picture)
    return chronicle


class ChronicleTest(SmaltiTest):
    def photographs(self, chronicle):
        return [str(chronicle.photograph(number)) for number in range(1, len(chronicle) + 1)]

    def check_histories(self, stretches, chronicle):
        """The histories of a chronicle; stretches are tuples (book, sketch, picture)."""
        histories = chronicle.histories()
        self.assertIsInstance(histories, list)
        self.assertEqual(len(histories), len(stretches))
        for history, (book, sketch, picture) in zip(histories, stretches):
            self.assertIs(check_history(book, sketch, picture, history), True)
            expected = history_mending(book, sketch, picture)
            self.assertEqual(history.first, expected.first)
            loose = oracle.loose(book, picture)
            self.assertEqual([history.mended_cells(), history.mending_count()], [loose, len(loose)])


class Example(ChronicleTest):
    def test_example_of_the_document(self):
        chronicle = Chronicle(BOOK, Sketch(3, 1))
        numbers = [chronicle.show(Picture.read("adb")), chronicle.show(Picture.read("adc"))]
        self.assertEqual([numbers, chronicle.dates(0, 0), chronicle.dates(1, 0), chronicle.never_mended().cells()],
                         [[1, 2], [0], [2], [(0, 0)]])


class NoPhotographs(ChronicleTest):
    def setUp(self):
        self.chronicle = Chronicle(BOOK, Sketch(3, 1))

    def test_answers(self):
        self.assertEqual([len(self.chronicle), self.chronicle.histories(), self.chronicle.fewest()], [0, [], 0])
        self.assertIsInstance(self.chronicle.never_mended(), Region)
        self.assertEqual(self.chronicle.never_mended(), NONE)

    def test_errors(self):
        self.assert_error(NoPhotograph(0), self.chronicle.drop)
        for number in [0, 1, -1, 2, HUGE, -HUGE]:
            self.assert_error(NoPhotograph(number), self.chronicle.photograph, number)
            self.assert_error(NoPhotograph(number), self.chronicle.stretch, number)
        for x, y in [(0, 0), *FAR]:
            self.assert_error(NoPhotograph(0), self.chronicle.dates, x, y)


class Showing(ChronicleTest):
    def test_numbers(self):
        chronicle = Chronicle(ANY, Sketch(3, 1))
        for number, text in enumerate(["abc", "abd", "...", "abc"], start=1):
            self.assertEqual([chronicle.show(Picture.read(text)), len(chronicle)], [number, number])
        self.assertEqual(self.photographs(chronicle), ["abc", "abd", "...", "abc"])

    def test_unequal_size(self):
        chronicle = Chronicle(Book([]), Sketch(3, 1))
        for count in range(2):
            for text in ["ab", "abcd", "abc\nabc", "a\nb\nc"]:
                self.assert_error(UnequalSize(), chronicle.show, Picture.read(text))
                self.assertEqual(len(chronicle), count)
            chronicle.show(FIRST)

    def test_impossible_at_first(self):
        chronicle = Chronicle(BOOK, Sketch.read("b c b"))
        self.assert_error(Impossible([(0, 0), (1, 0)]), chronicle.show, Picture.read("adb"))
        self.assertEqual([len(chronicle), chronicle.histories()], [0, []])
        self.assert_error(NoPhotograph(0), chronicle.drop)
        self.assertEqual(chronicle.show(Picture.read("bcb")), 1)

    def test_impossible_later(self):
        chronicle = chronicle_of(BOOK, Sketch(3, 1), FIRST)
        for text, lacking in [("bdb", [(0, 0)]), ("ddd", [(0, 0), (2, 0)]), ("aab", [(1, 0)]), ("bbb", [(0, 0), (1, 0)])]:
            for _ in range(2):
                with self.assertRaises(Impossible) as caught:
                    chronicle.show(Picture.read(text))
                self.assertEqual(caught.exception.lacking, lacking)
                caught.exception.lacking.clear()
        self.assertEqual(self.photographs(chronicle), ["adb"])
        self.assertEqual([chronicle.dates(0, 0), chronicle.fewest()], [[0], 0])
        self.assertEqual(chronicle.show(SECOND), 2)

    def test_stones_may_fall_between_photographs(self):
        chronicle = chronicle_of(Book([]), Sketch.read("a b c"), Picture.read("abc"), Picture.read("a.c"))
        self.assertEqual(chronicle.show(Picture.read("...")), 3)
        self.assert_error(Impossible([(1, 0)]), chronicle.show, Picture.read(".b."))

    def test_the_sketch_is_for_the_first_stretch_only(self):
        chronicle = chronicle_of(BOOK, Sketch.read("a d b"), FIRST, SECOND)
        self.assertEqual(chronicle.dates(2, 0), [2])
        self.assert_error(Impossible([(2, 0)]), Chronicle(Book([]), Sketch.read("a d b")).show, SECOND)


class Dropping(ChronicleTest):
    def test_down_to_none(self):
        chronicle = chronicle_of(ANY, Sketch(3, 1), FIRST, SECOND, Picture.read("z.z"))
        for left, text in [(2, "z.z"), (1, "adc"), (0, "adb")]:
            self.assertEqual([str(chronicle.drop()), len(chronicle)], [text, left])
            self.assert_error(NoPhotograph(left + 1), chronicle.photograph, left + 1)
            self.assert_error(NoPhotograph(left + 1), chronicle.stretch, left + 1)
        for _ in range(2):
            self.assert_error(NoPhotograph(0), chronicle.drop)
        self.assertEqual(chronicle.show(SECOND), 1)

    def test_the_photograph_before_is_the_last_one_then(self):
        chronicle = chronicle_of(BOOK, Sketch(3, 1), FIRST, SECOND)
        self.assertEqual(chronicle.dates(1, 0), [2])
        chronicle.drop()
        self.assertEqual([chronicle.dates(1, 0), chronicle.never_mended()], [[0], FIRST.stones()])
        self.assert_error(Impossible([(2, 0)]), chronicle.show, Picture.read("add"))
        self.assertEqual(chronicle.show(SECOND), 2)

    def test_the_books_of_dropped_stretches_are_gone(self):
        chronicle = chronicle_of(BOOK, Sketch(3, 1), FIRST, SECOND)
        chronicle.change_book(ANY)
        chronicle.drop()
        self.assertEqual([chronicle.show(SECOND), chronicle.dates(0, 0)], [2, [0, 2]])
        self.assertEqual(chronicle.stretch(2).verdict(0, 0), "either")


class Photographs(ChronicleTest):
    def test_each_number(self):
        pictures = [FIRST, SECOND, THIRD]
        chronicle = chronicle_of(ANY, Sketch(3, 1), *pictures)
        for number, picture in enumerate(pictures, start=1):
            self.assertEqual(chronicle.photograph(number), picture)
        for number in [0, -1, -2, -3, 4, 5, HUGE, -HUGE]:
            self.assert_error(NoPhotograph(number), chronicle.photograph, number)
            self.assert_error(NoPhotograph(number), chronicle.stretch, number)


class Stretches(ChronicleTest):
    def test_each_stretch(self):
        chronicle = chronicle_of(BOOK, Sketch.read("* * b"), FIRST, SECOND)
        first, second = chronicle.stretch(1), chronicle.stretch(2)
        for inquiry, picture in [(first, FIRST), (second, SECOND)]:
            self.assertIsInstance(inquiry, Inquiry)
            self.assertEqual([inquiry.picture, inquiry.kept, inquiry.marked, inquiry.limit], [picture, NONE, NONE, 8])
            self.assert_error(NothingToUndo(), inquiry.undo)
        self.assertEqual([[inquiry.beginnings(x, 0) for x in range(3)] for inquiry in [first, second]],
                         [["a", "d", "b"], ["a", "d", "b"]])
        self.assertEqual([first.required, second.required], [NONE, Region.of((2, 0))])

    def test_the_first_stretch_has_the_sketch(self):
        chronicle = chronicle_of(BOOK, Sketch.read("* q. bc"), SECOND)
        self.assertEqual([chronicle.stretch(1).beginnings(x, 0) for x in range(3)], ["a", ".q", "bc"])
        self.assertEqual(chronicle.stretch(1).required, Region.of((1, 0)))

    def test_evidence_does_not_change_the_chronicle(self):
        chronicle = chronicle_of(BOOK, Sketch(3, 1), FIRST, SECOND)
        expected = [chronicle.dates(x, 0) for x in range(3)]
        for number in [1, 2]:
            inquiry = chronicle.stretch(number)
            inquiry.mark((0, 0))
            inquiry.keep((1, 0), (2, 0))
            inquiry.limit = 0
            inquiry.release((0, 0))
            inquiry.correct(0, 0, "z")
        self.assertEqual([chronicle.dates(x, 0) for x in range(3)], expected)
        self.assertEqual(self.photographs(chronicle), ["adb", "adc"])
        self.assertEqual([chronicle.fewest(), chronicle.never_mended()], [2, Region.of((0, 0))])
        self.assertEqual(chronicle.stretch(2).kept, NONE)
        self.check_histories([(BOOK, Sketch(3, 1), FIRST), (BOOK, Sketch.of(FIRST), SECOND)], chronicle)

    def test_a_stretch_outlives_its_photograph(self):
        chronicle = chronicle_of(BOOK, Sketch(3, 1), FIRST, SECOND)
        inquiry = chronicle.stretch(2)
        chronicle.drop()
        chronicle.change_book(Book([]))
        self.assertEqual([inquiry.verdict(x, 0) for x in range(3)], ["old", "new", "new"])


class Books(ChronicleTest):
    def test_for_the_stretches_that_are_added_from_then_on(self):
        chronicle = chronicle_of(BOOK, Sketch(3, 1), SECOND)
        self.assertIsNone(chronicle.change_book(Book([])))
        self.assertEqual([chronicle.show(SECOND), chronicle.dates(1, 0)], [2, [0, 1]])
        self.assert_error(Impossible([(2, 0)]), chronicle.show, FIRST)
        chronicle.change_book(ANY)
        self.assertEqual([chronicle.show(SECOND), chronicle.dates(1, 0), chronicle.dates(0, 0)], [3, [0, 1, 3], [0, 3]])
        words = [chronicle.stretch(number).verdict(1, 0) for number in [1, 2, 3]]
        self.assertEqual(words, ["either", "old", "either"])
        same = Sketch.of(SECOND)
        self.check_histories([(BOOK, Sketch(3, 1), SECOND), (Book([]), same, SECOND), (ANY, same, SECOND)], chronicle)

    def test_before_the_first_photograph(self):
        chronicle = Chronicle(Book([]), Sketch.read("* * b"))
        self.assert_error(Impossible([(2, 0)]), chronicle.show, SECOND)
        chronicle.change_book(BOOK)
        self.assertEqual(chronicle.show(SECOND), 1)


class Dates(ChronicleTest):
    def test_old_in_every_stretch(self):
        chronicle = chronicle_of(BOOK, Sketch(3, 1), FIRST, FIRST, FIRST)
        self.assertEqual([chronicle.dates(x, 0) for x in range(3)], [[0], [0], [0]])

    def test_either_in_every_stretch(self):
        chronicle = chronicle_of(BOOK, Sketch(3, 1), SECOND, SECOND, SECOND)
        self.assertEqual([chronicle.dates(x, 0) for x in range(3)], [[0], [0, 1, 2, 3], [0, 1, 2, 3]])

    def test_new_ends_the_list(self):
        chronicle = chronicle_of(BOOK, Sketch(3, 1), SECOND, Picture.read("a.."), SECOND, SECOND)
        self.assertEqual([chronicle.dates(x, 0) for x in range(3)], [[0], [3, 4], [3, 4]])
        self.assertEqual(chronicle.drop(), SECOND)
        self.assertEqual([chronicle.dates(x, 0) for x in range(3)], [[0], [3], [3]])

    def test_new_in_the_first_stretch(self):
        chronicle = chronicle_of(BOOK, Sketch.read("* * b"), SECOND)
        self.assertEqual([chronicle.dates(x, 0) for x in range(3)], [[0], [1], [1]])
        chronicle.show(SECOND)
        self.assertEqual([chronicle.dates(x, 0) for x in range(3)], [[0], [1, 2], [1, 2]])

    def test_old_between(self):
        chronicle = chronicle_of(ANY, Sketch.read("b *"), Picture.read("ac"))
        chronicle.change_book(Book([]))
        chronicle.show(Picture.read("ac"))
        self.assertEqual([chronicle.dates(0, 0), chronicle.dates(1, 0)], [[1], [0, 1]])
        chronicle.change_book(ANY)
        chronicle.show(Picture.read("ac"))
        self.assertEqual([chronicle.dates(0, 0), chronicle.dates(1, 0)], [[1, 3], [0, 1, 3]])

    def test_errors(self):
        chronicle = chronicle_of(ANY, Sketch(3, 2), Picture.read("abc\nabc"), Picture.read("ab.\n..."))
        for x, y in FAR:
            self.assert_error(OutOfPicture(x, y), chronicle.dates, x, y)
        for x, y in [(2, 0), (0, 1)]:
            self.assert_error(NoStone(x, y), chronicle.dates, x, y)
        chronicle.drop()
        self.assertEqual(chronicle.dates(2, 0), [0, 1])

    def test_a_hole_in_an_earlier_photograph(self):
        chronicle = chronicle_of(ANY, Sketch(2, 1), Picture.read(".a"), Picture.read("ba"))
        self.assertEqual([chronicle.dates(0, 0), chronicle.dates(1, 0)], [[2], [0, 1, 2]])

    def test_the_list_is_new(self):
        chronicle = chronicle_of(BOOK, Sketch(3, 1), SECOND)
        chronicle.dates(1, 0).append(7)
        chronicle.histories().clear()
        self.assertEqual([chronicle.dates(1, 0), len(chronicle.histories())], [[0, 1], 1])

    def test_histories_themselves(self):
        """Dates, compared with all histories of all stretches in small."""
        found = []
        dice = random.Random(64)
        for book, sketch, picture, letters in oracle.small_cases(64, 120):
            others = [book, Book([oracle.random_rule(dice, letters) for _ in range(3)])]
            chronicle, worlds = Chronicle(book, sketch), []
            for number in range(dice.randint(1, 4)):
                chosen = dice.choice(others)
                chronicle.change_book(chosen)
                self.add(chronicle, worlds, chosen, sketch, picture, letters)
                picture = changed(dice, picture, letters)
            if len(chronicle) > 0:
                last = chronicle.photograph(len(chronicle))
                for cell in last.stones().cells():
                    found.append(chronicle.dates(*cell))
                    self.assertEqual(found[-1], plain_dates(worlds, cell))
                self.assertEqual(chronicle.fewest(), sum(fewest_in(world) for world in worlds))
                never = [cell for cell in last.stones().cells() if plain_dates(worlds, cell) == [0]]
                self.assertEqual(chronicle.never_mended(), Region(never))
        for dates in [[0], [1], [2], [0, 1], [0, 1, 2], [1, 2]]:
            self.assertIn(dates, found)

    def add(self, chronicle, worlds, book, sketch, picture, letters):
        """Show a photograph, if there is a history of the stretch."""
        if len(chronicle) > 0:
            sketch = Sketch.of(chronicle.photograph(len(chronicle)))
        world = oracle.World(book, sketch, picture, letters)
        if world.endings([], []):
            self.assertEqual(chronicle.show(picture), len(worlds) + 1)
            worlds.append(world)
        else:
            lacking = (oracle.needed(sketch, picture) - oracle.loose(book, picture)).cells()
            self.assertNotEqual(lacking, [])
            self.assert_error(Impossible(lacking), chronicle.show, picture)


def changed(dice, picture, letters):
    """The picture, perhaps with another sign at one or two cells."""
    for _ in range(dice.randint(0, 2)):
        picture = picture.with_sign(*dice.choice(picture.every_cell()), dice.choice(letters + "."))
    return picture


def fewest_in(world):
    return min(world.mendings[state] for state in world.endings([], []))


def plain_dates(worlds, cell):
    """The stretches of the last mendings of the cell, for all choices of one history for each stretch."""
    dates = []
    for last in range(len(worlds) + 1):
        mended = last == 0 or any(cell in cells for _, cells in worlds[last - 1].endings([], []))
        still = all(any(cell not in cells for _, cells in world.endings([], [])) for world in worlds[last:])
        if mended and still:
            dates.append(last)
    return dates


class Sums(ChronicleTest):
    def test_histories_and_fewest(self):
        sketch = Sketch.read("* * b")
        chronicle = chronicle_of(BOOK, sketch, SECOND, SECOND, Picture.read(".d."), Picture.read(".d."))
        stretches = [(BOOK, sketch, SECOND), (BOOK, Sketch.of(SECOND), SECOND),
                     (BOOK, Sketch.of(SECOND), Picture.read(".d.")), (BOOK, Sketch.of(Picture.read(".d.")), Picture.read(".d."))]
        self.check_histories(stretches, chronicle)
        self.assertEqual(chronicle.fewest(), 2)
        self.assertEqual(chronicle.fewest(), sum(fewest(*stretch) for stretch in stretches))

    def test_the_histories_follow_each_other(self):
        chronicle = chronicle_of(BOOK, Sketch(3, 1), FIRST, SECOND, Picture.read("a.c"), SECOND)
        histories = chronicle.histories()
        for number, history in enumerate(histories[1:], start=1):
            self.assertEqual(history.first, chronicle.photograph(number))
        self.assertEqual([history.mending_count() for history in histories], [0, 2, 1, 2])

    def test_histories_are_new_each_time(self):
        chronicle = chronicle_of(BOOK, Sketch(3, 1), SECOND)
        chronicle.histories()[0].deeds.clear()
        self.assertEqual(chronicle.histories()[0].mending_count(), 2)

    def test_fewest_of_several_stretches(self):
        chronicle = chronicle_of(ANY, Sketch.read("a b c"), *[Picture.read(text) for text in ["abd", "bbd", "aaa"]])
        self.assertEqual(chronicle.fewest(), 1 + 1 + 3)

    def test_too_many_cases_of_the_first_such_stretch(self):
        nine, ten = Picture.read("aaaaa\naaaa."), Picture.plain(5, 2, "a")
        eight = Picture.read("aaaaa\naaa..")
        chronicle = chronicle_of(ANY, Sketch(5, 2), eight)
        self.assertEqual(chronicle.fewest(), 0)
        chronicle.show(nine)
        self.assertEqual(chronicle.fewest(), 1)
        chronicle.show(nine)
        self.assert_error(TooManyCases(9), chronicle.fewest)
        chronicle.show(ten)
        chronicle.show(ten)
        self.assert_error(TooManyCases(9), chronicle.fewest)
        self.assertEqual(len(chronicle.histories()), 5)
        self.assert_error(TooManyCases(10), chronicle_of(ANY, Sketch(5, 2), ten, nine, nine).fewest)

    def test_never_mended(self):
        chronicle = chronicle_of(BOOK, Sketch(3, 1), FIRST)
        self.assertEqual(chronicle.never_mended(), FIRST.stones())
        chronicle.show(SECOND)
        self.assertEqual(chronicle.never_mended(), Region.of((0, 0)))
        chronicle.show(Picture.read(".dc"))
        self.assertEqual(chronicle.never_mended(), NONE)
        chronicle.drop()
        chronicle.change_book(ANY)
        chronicle.show(SECOND)
        self.assertEqual(chronicle.never_mended(), NONE)


class Independence(ChronicleTest):
    def test_the_sketch_is_copied(self):
        sketch = Sketch.read("* * bc")
        chronicle = Chronicle(BOOK, sketch)
        sketch[0, 0] = "z"
        chronicle.show(SECOND)
        sketch[2, 0] = "b"
        self.assertEqual([chronicle.dates(x, 0) for x in range(3)], [[0], [0, 1], [0, 1]])
        self.assertEqual(chronicle.stretch(1).beginnings(2, 0), "bc")
        self.assertEqual(sketch.text(), "z * b")

    def test_two_chronicles(self):
        sketch = Sketch(3, 1)
        first, second = Chronicle(BOOK, sketch), Chronicle(BOOK, sketch)
        first.show(FIRST)
        first.change_book(ANY)
        self.assertEqual([len(second), second.histories()], [0, []])
        second.show(SECOND)
        self.assertEqual([first.photograph(1), second.photograph(1)], [FIRST, SECOND])
        self.assertEqual([second.dates(0, 0), sketch], [[0], Sketch(3, 1)])
        first.drop()
        self.assertEqual(len(second), 1)


class Largest(ChronicleTest):
    def test_many_photographs_of_the_largest_picture(self):
        start = time.process_time()
        eight = [(dx, dy) for dx in (-1, 0, 1) for dy in (-1, 0, 1) if (dx, dy) != (0, 0)]
        book = Book([SameRule(eight, 5)] * 19 + [Rule("a", [(-1, 0, "#"), (0, -1, "#")])])
        pictures = [Picture.plain(8, 8, "a"), Picture(["aaaaaaa."] * 8), Picture.plain(8, 8, "a")] * 3
        chronicle = chronicle_of(book, Sketch(8, 8), *pictures)
        self.assertEqual(len(chronicle), 9)
        self.assertEqual(chronicle.never_mended(), NONE)
        self.assertEqual([chronicle.dates(7, 7), chronicle.dates(0, 0)], [[9], list(range(10))])
        for history, picture in zip(chronicle.histories(), pictures):
            self.assertEqual(history.last(book), picture)
        self.assertLess(time.process_time() - start, 30)


if __name__ == "__main__":
    unittest.main()
