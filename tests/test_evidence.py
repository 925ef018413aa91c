"""smalti/inquiries.py: evidence, undo, the limit and suppose (points 2, 47 to 51, 58 and 59)."""

import random
import unittest

from smalti.books import Book
from smalti.cells import Region
from smalti.errors import (Impossible, InvalidLimit, InvalidSign, NoStone, NothingToUndo, Opposed, OutOfPicture,
                           SmaltiError, TooManyCases, UnequalSize)
from smalti.inquiries import Inquiry
from smalti.pictures import Picture
from smalti.sketches import Sketch
from tests import oracle
from tests.helper import FAR, HUGE, SmaltiTest

BOOK = Book.read("d all 1,0:c\nc all -1,0:b")
NONE = Region([])


def small():
    """An inquiry about three stones, of which two are loosened, and three holes."""
    return Inquiry(BOOK, Sketch(3, 2), Picture.read("adc\n..."))


def shown(inquiry):
    """All that an inquiry shows of its present state."""
    regions = [inquiry.kept, inquiry.marked, inquiry.required, inquiry.missing]
    return [str(inquiry.picture)] + [region.cells() for region in regions] + [inquiry.possible, inquiry.limit]


def all_shown(inquiry):
    """What an inquiry shows, now and after each undo."""
    states = [shown(inquiry)]
    while True:
        try:
            inquiry.undo()
        except NothingToUndo:
            return states
        states.append(shown(inquiry))


class InquiryTest(SmaltiTest):
    def refused(self, error, inquiry, call, *arguments, **more):
        """The call raises the error, and nothing changes."""
        before = shown(inquiry)
        self.assert_error(error, call, *arguments, **more)
        self.assertEqual(shown(inquiry), before)


class Beginning(InquiryTest):
    def test_a_new_inquiry(self):
        picture = Picture.read("adc\n...")
        inquiry = Inquiry(BOOK, Sketch(3, 2), picture)
        self.assertEqual(inquiry.picture, picture)
        for region in [inquiry.kept, inquiry.marked, inquiry.required, inquiry.missing]:
            self.assertIsInstance(region, Region)
            self.assertEqual(region, NONE)
        self.assertIs(inquiry.possible, True)
        self.assertEqual(inquiry.limit, 8)
        self.assertEqual(Inquiry.WORDS, ("hole", "old", "new", "either"))
        self.assert_error(NothingToUndo(), inquiry.undo)

    def test_unequal_size(self):
        for rows in ["adc", "adc\n...\n...", "ad\n..", "adcb\n....", "a"]:
            for book in [BOOK, Book([])]:
                self.assert_error(UnequalSize(), Inquiry, book, Sketch(3, 2), Picture.read(rows))

    def test_the_sketch_is_copied(self):
        sketch = Sketch(3, 1)
        inquiry = Inquiry(BOOK, sketch, Picture.read("adc"))
        sketch[0, 0] = "b"
        sketch.allow(2, 0, "z")
        self.assertEqual([inquiry.required, inquiry.possible], [NONE, True])
        self.assertEqual(inquiry.beginnings(2, 0), Sketch.ANY)
        inquiry.mark((2, 0))
        inquiry.correct(0, 0, "b")
        self.assertEqual(sketch.text(), "b * z")

    def test_the_properties_cannot_be_assigned(self):
        inquiry = small()
        for name in ["picture", "kept", "marked", "required", "missing", "possible"]:
            with self.assertRaises(AttributeError):
                setattr(inquiry, name, NONE)

    def test_two_inquiries_are_independent(self):
        sketch, picture = Sketch(3, 1), Picture.read("adc")
        first, second = Inquiry(BOOK, sketch, picture), Inquiry(BOOK, sketch, picture)
        before = shown(second)
        first.keep((0, 0))
        first.mark((1, 0))
        first.correct(2, 0, "b")
        first.limit = 3
        self.assertEqual(shown(second), before)
        self.assert_error(NothingToUndo(), second.undo)
        self.assertEqual([picture.lines(), sketch], [["adc"], Sketch(3, 1)])


class Keeping(InquiryTest):
    def test_what_it_returns(self):
        inquiry = small()
        self.assertEqual(inquiry.keep(), 0)
        self.assertEqual(inquiry.keep((2, 0), (0, 0)), 2)
        self.assertEqual(inquiry.kept, Region.of((0, 0), (2, 0)))
        self.assertEqual(inquiry.keep((2, 0), (1, 0)), 1)
        self.assertEqual(inquiry.keep((2, 0), (1, 0)), 0)
        self.assertEqual([inquiry.kept, inquiry.marked], [Region.of((0, 0), (1, 0), (2, 0)), NONE])

    def test_the_same_cell_several_times(self):
        inquiry = small()
        self.assertEqual(inquiry.keep((1, 0), (1, 0), (0, 0), (1, 0)), 2)
        self.assertEqual(inquiry.keep((1, 0), (1, 0)), 0)

    def test_a_needed_cell_may_be_kept(self):
        inquiry = Inquiry(BOOK, Sketch.read("* * b"), Picture.read("adc"))
        self.assertEqual(inquiry.keep((2, 0)), 1)
        self.assertEqual([inquiry.required, inquiry.missing], [Region.of((2, 0))] * 2)
        self.assertIs(inquiry.possible, False)

    def test_a_region_that_was_read_does_not_change(self):
        inquiry = small()
        before = inquiry.kept
        before |= Region.of((2, 0))
        self.assertEqual(inquiry.kept, NONE)
        inquiry.keep((0, 0))
        self.assertEqual(before, Region.of((2, 0)))


class Marking(InquiryTest):
    def test_what_it_returns(self):
        inquiry = small()
        self.assertEqual(inquiry.mark(), 0)
        self.assertEqual(inquiry.mark((2, 0), (2, 0)), 1)
        self.assertEqual(inquiry.mark((1, 0), (2, 0)), 1)
        self.assertEqual(inquiry.mark((1, 0), (2, 0)), 0)
        self.assertEqual([inquiry.marked, inquiry.kept], [Region.of((1, 0), (2, 0)), NONE])
        self.assertEqual(inquiry.required, Region.of((1, 0), (2, 0)))

    def test_a_cell_that_is_not_loosened_may_be_marked(self):
        inquiry = small()
        self.assertEqual(inquiry.mark((0, 0)), 1)
        self.assertEqual([inquiry.required, inquiry.missing], [Region.of((0, 0))] * 2)
        self.assertIs(inquiry.possible, False)

    def test_kept_and_marked_cells(self):
        inquiry = small()
        self.assertEqual([inquiry.keep((1, 0)), inquiry.mark((2, 0))], [1, 1])
        self.assertEqual(inquiry.missing, Region.of((2, 0)))
        self.assertEqual([inquiry.keep((0, 0)), inquiry.mark((2, 0))], [1, 0])
        self.assertEqual([inquiry.kept, inquiry.marked], [Region.of((0, 0), (1, 0)), Region.of((2, 0))])

    def test_required_and_marked_cells(self):
        inquiry = Inquiry(BOOK, Sketch.read("* * b"), Picture.read("adc"))
        self.assertEqual([inquiry.required, inquiry.marked], [Region.of((2, 0)), NONE])
        self.assertEqual(inquiry.mark((2, 0), (1, 0)), 2)
        self.assertEqual([inquiry.required, inquiry.marked], [Region.of((1, 0), (2, 0))] * 2)
        inquiry.release((2, 0))
        self.assertEqual([inquiry.required, inquiry.marked], [Region.of((1, 0), (2, 0)), Region.of((1, 0))])


class Releasing(InquiryTest):
    def test_what_it_returns(self):
        inquiry = small()
        self.assertEqual([inquiry.release(), inquiry.release((0, 0))], [0, 0])
        inquiry.keep((0, 0), (1, 0))
        inquiry.mark((2, 0))
        self.assertEqual(inquiry.release((2, 0), (0, 0), (2, 0)), 2)
        self.assertEqual([inquiry.kept, inquiry.marked], [Region.of((1, 0)), NONE])
        self.assertEqual(inquiry.release((2, 0), (0, 0), (1, 0)), 1)
        self.assertEqual(inquiry.release((2, 0), (0, 0), (1, 0)), 0)

    def test_then_the_opposite_can_be_given(self):
        inquiry = small()
        inquiry.keep((1, 0))
        inquiry.release((1, 0))
        self.assertEqual(inquiry.mark((1, 0)), 1)
        inquiry.release((1, 0))
        self.assertEqual(inquiry.keep((1, 0)), 1)


class Faults(InquiryTest):
    def test_cells_outside_and_holes(self):
        inquiry = small()
        for call in [inquiry.keep, inquiry.mark, inquiry.release]:
            for x, y in FAR:
                self.refused(OutOfPicture(x, y), inquiry, call, (x, y))
                self.refused(OutOfPicture(x, y), inquiry, call, (0, 0), (1, 0), (x, y), (0, 1))
            self.refused(NoStone(1, 1), inquiry, call, (1, 1))
            self.refused(NoStone(1, 1), inquiry, call, (0, 0), (1, 1), (3, 0))
        self.assert_error(NothingToUndo(), inquiry.undo)

    def test_opposed_evidence(self):
        inquiry = small()
        inquiry.keep((0, 0))
        inquiry.mark((1, 0))
        self.refused(Opposed(0, 0), inquiry, inquiry.mark, (0, 0))
        self.refused(Opposed(0, 0), inquiry, inquiry.mark, (2, 0), (1, 0), (0, 0))
        self.refused(Opposed(1, 0), inquiry, inquiry.keep, (1, 0))
        self.refused(Opposed(1, 0), inquiry, inquiry.keep, (0, 0), (2, 0), (1, 0))

    def test_the_first_fault_is_raised(self):
        inquiry = small()
        inquiry.keep((0, 0))
        inquiry.mark((1, 0))
        self.refused(Opposed(1, 0), inquiry, inquiry.keep, (2, 0), (1, 0), (9, 9), (0, 1))
        self.refused(OutOfPicture(9, 9), inquiry, inquiry.keep, (2, 0), (9, 9), (0, 1), (1, 0))
        self.refused(NoStone(0, 1), inquiry, inquiry.mark, (2, 0), (0, 1), (0, 0), (9, 9))
        self.refused(NoStone(0, 1), inquiry, inquiry.release, (1, 0), (0, 0), (0, 1), (9, 9))
        inquiry.undo()
        self.assertEqual([inquiry.kept, inquiry.marked], [Region.of((0, 0)), NONE])


class Correcting(InquiryTest):
    def test_another_sign(self):
        inquiry = small()
        self.assertIs(inquiry.correct(0, 1, "a"), True)
        self.assertEqual(str(inquiry.picture), "adc\na..")
        self.assertIs(inquiry.correct(0, 0, "."), True)
        self.assertEqual(str(inquiry.picture), ".dc\na..")
        self.assertIs(inquiry.correct(0, 1, "z"), True)
        self.assertEqual(str(inquiry.picture), ".dc\nz..")

    def test_the_same_sign(self):
        inquiry = small()
        for x, y, sign in [(0, 0, "a"), (2, 0, "c"), (1, 1, ".")]:
            self.assertIs(inquiry.correct(x, y, sign), False)
        self.assert_error(NothingToUndo(), inquiry.undo)

    def test_what_follows_from_the_new_picture(self):
        inquiry = Inquiry(BOOK, Sketch.read("* * b"), Picture.read("adb"))
        self.assertEqual([inquiry.required, inquiry.cells_with("either")], [NONE, NONE])
        inquiry.correct(2, 0, "c")
        self.assertEqual([inquiry.required, inquiry.cells_with("new")], [Region.of((2, 0)), Region.of((1, 0), (2, 0))])
        inquiry.correct(1, 0, "a")
        self.assertEqual([inquiry.missing, inquiry.possible], [Region.of((2, 0)), False])
        inquiry.correct(1, 0, ".")
        self.assertEqual([inquiry.verdict(1, 0), inquiry.select(wave=1)], ["hole", [(2, 0)]])

    def test_the_evidence_of_other_cells_stays(self):
        inquiry = small()
        inquiry.keep((0, 0))
        inquiry.mark((2, 0))
        inquiry.correct(1, 0, "b")
        self.assertEqual([inquiry.kept, inquiry.marked], [Region.of((0, 0)), Region.of((2, 0))])

    def test_the_order_of_the_errors(self):
        inquiry = small()
        inquiry.keep((0, 0))
        inquiry.mark((1, 0))
        for x, y in FAR:
            for sign in ["a", "#"]:
                self.refused(OutOfPicture(x, y), inquiry, inquiry.correct, x, y, sign)
        for sign in ["", "#", "ab", "..", "A", "*", "1", " ", "\n", "\u00e9", "\u00df"]:
            for x, y in [(0, 0), (1, 0), (2, 0), (0, 1)]:
                self.refused(InvalidSign(sign), inquiry, inquiry.correct, x, y, sign)
        for sign in ["a", "d", "z", "."]:
            for x, y in [(0, 0), (1, 0)]:
                self.refused(Opposed(x, y), inquiry, inquiry.correct, x, y, sign)
        inquiry.release((0, 0))
        self.assertIs(inquiry.correct(0, 0, "z"), True)


class Undoing(InquiryTest):
    def test_each_kind_of_call(self):
        inquiry = small()
        states = [shown(inquiry)]
        for call, *arguments in [(inquiry.keep, (0, 0), (1, 0)), (inquiry.mark, (2, 0)), (inquiry.correct, 2, 1, "c"),
                                 (inquiry.release, (0, 0), (2, 0)), (inquiry.correct, 2, 1, ".")]:
            call(*arguments)
            states.append(shown(inquiry))
        for state in states[-2::-1]:
            self.assertIsNone(inquiry.undo())
            self.assertEqual(shown(inquiry), state)
        self.refused(NothingToUndo(), inquiry, inquiry.undo)

    def test_calls_that_changed_nothing(self):
        inquiry = small()
        inquiry.keep((0, 0))
        inquiry.keep((0, 0))
        inquiry.keep()
        inquiry.mark()
        inquiry.release()
        inquiry.release((1, 0), (2, 0))
        inquiry.correct(1, 0, "d")
        self.refused(Opposed(0, 0), inquiry, inquiry.mark, (1, 0), (0, 0))
        self.refused(InvalidSign("#"), inquiry, inquiry.correct, 1, 0, "#")
        inquiry.undo()
        self.assertEqual(inquiry.kept, NONE)
        self.refused(NothingToUndo(), inquiry, inquiry.undo)

    def test_undo_is_not_taken_back(self):
        inquiry = small()
        inquiry.keep((0, 0))
        inquiry.undo()
        self.assert_error(NothingToUndo(), inquiry.undo)
        inquiry.mark((1, 0))
        inquiry.undo()
        self.assertEqual([inquiry.kept, inquiry.marked], [NONE, NONE])

    def test_questions_after_undo(self):
        inquiry = small()
        before = inquiry.report()
        inquiry.correct(1, 0, "b")
        self.assertNotEqual(inquiry.report(), before)
        inquiry.undo()
        self.assertEqual(inquiry.report(), before)


class Model:
    """The evidence and the picture of an inquiry, kept as plainly as possible."""

    def __init__(self, picture):
        self.signs = {cell: picture[cell] for cell in picture.every_cell()}
        self.evidence = {}
        self.earlier = []

    def fault(self, word, cells):
        opposed = {"keep": "mark", "mark": "keep"}.get(word)
        for cell in cells:
            if cell not in self.signs:
                return OutOfPicture(*cell)
            if self.signs[cell] == ".":
                return NoStone(*cell)
            if opposed and self.evidence.get(cell) == opposed:
                return Opposed(*cell)
        return None

    def give(self, word, cells):
        before = dict(self.evidence)
        for cell in cells:
            self.evidence.pop(cell, None)
            if word != "release":
                self.evidence[cell] = word
        changed = [cell for cell in self.signs if before.get(cell) != self.evidence.get(cell)]
        if changed:
            self.earlier.append((dict(self.signs), before))
        return len(changed)

    def wrong_correction(self, cell, sign):
        if cell not in self.signs:
            return OutOfPicture(*cell)
        if sign not in "abcd.":
            return InvalidSign(sign)
        return Opposed(*cell) if cell in self.evidence else None

    def correct(self, cell, sign):
        before = dict(self.signs)
        self.signs[cell] = sign
        if self.signs != before:
            self.earlier.append((before, dict(self.evidence)))
        return self.signs != before

    def undo(self):
        self.signs, self.evidence = self.earlier.pop()


class LongWalks(InquiryTest):
    """Many calls in any order, compared with a plain model."""

    def test_many_calls(self):
        dice = random.Random(50)
        for book, sketch, picture, _, _ in oracle.random_cases(50, 25):
            inquiry, model = Inquiry(book, sketch, picture), Model(picture)
            for _ in range(60):
                self.step(dice, inquiry, model)
                self.compare(book, sketch, inquiry, model)

    def step(self, dice, inquiry, model):
        word = dice.choice(["keep", "mark", "release", "correct", "correct", "undo"])
        picture = inquiry.picture
        cells = [(dice.randint(0, picture.width - 1), dice.randint(0, picture.height - 1)) for _ in range(3)]
        cells = [cell if dice.random() < 0.95 else (cell[0] - 9, cell[1]) for cell in cells[:dice.randint(0, 3)]]
        if word == "undo":
            self.step_back(inquiry, model)
        elif word == "correct":
            for cell in cells:
                self.step_correct(inquiry, model, cell, dice.choice("abcd..#"))
        else:
            call, fault = getattr(inquiry, word), model.fault(word, cells)
            if fault:
                self.assert_error(fault, call, *cells)
            else:
                self.assertEqual(call(*cells), model.give(word, cells))

    def step_back(self, inquiry, model):
        if not model.earlier:
            self.assert_error(NothingToUndo(), inquiry.undo)
        else:
            inquiry.undo()
            model.undo()

    def step_correct(self, inquiry, model, cell, sign):
        fault = model.wrong_correction(cell, sign)
        if fault:
            self.assert_error(fault, inquiry.correct, *cell, sign)
        else:
            self.assertIs(inquiry.correct(*cell, sign), model.correct(cell, sign))

    def compare(self, book, sketch, inquiry, model):
        picture = inquiry.picture
        self.assertEqual({cell: picture[cell] for cell in picture.every_cell()}, model.signs)
        kept = Region([cell for cell, word in model.evidence.items() if word == "keep"])
        marked = Region([cell for cell, word in model.evidence.items() if word == "mark"])
        self.assertEqual([inquiry.kept, inquiry.marked], [kept, marked])
        required = oracle.needed(sketch, picture, marked)
        missing = required - oracle.loose(book, picture, kept)
        self.assertEqual([inquiry.required, inquiry.missing, inquiry.possible], [required, missing, not missing])


class Limits(InquiryTest):
    def test_assigning(self):
        inquiry = small()
        for value in [0, 12, 1, 8, 11]:
            inquiry.limit = value
            self.assertEqual(inquiry.limit, value)

    def test_change_limit(self):
        inquiry = small()
        self.assertEqual([inquiry.change_limit(12), inquiry.change_limit(0), inquiry.change_limit(0)], [8, 12, 0])
        self.assertEqual(inquiry.limit, 0)

    def test_invalid_limits(self):
        inquiry = small()
        inquiry.limit = 5
        for value in [-1, 13, -HUGE, HUGE, 100]:
            self.refused(InvalidLimit(value), inquiry, inquiry.change_limit, value)
            self.refused(InvalidLimit(value), inquiry, setattr, inquiry, "limit", value)
        self.assertEqual(inquiry.limit, 5)

    def test_undo_does_not_touch_the_limit(self):
        inquiry = small()
        inquiry.limit = 3
        inquiry.change_limit(4)
        self.assert_error(NothingToUndo(), inquiry.undo)
        inquiry.keep((0, 0))
        inquiry.limit = 7
        inquiry.undo()
        self.assertEqual([inquiry.limit, inquiry.kept], [7, NONE])

    def test_the_limit_of_the_counts(self):
        book = Book.read("same 0")
        for width, height in [(1, 1), (8, 1), (3, 3), (4, 3)]:
            count = width * height
            inquiry = Inquiry(book, Sketch(width, height), Picture.plain(width, height, "q"))
            for limit in [0, 8, 12]:
                inquiry.limit = limit
                for call in [inquiry.fewest, inquiry.fewest_cells, inquiry.bound]:
                    if count > limit:
                        self.assert_error(TooManyCases(count), call)
                    else:
                        call()

    def test_the_limit_is_of_one_inquiry(self):
        first, second = small(), small()
        first.limit = 0
        self.assertEqual([second.limit, small().limit], [8, 8])
        self.assert_error(TooManyCases(2), first.fewest)
        self.assertEqual(second.fewest(), 0)


class Refusal(Exception):
    """An error that the program does not know."""


class Supposing(InquiryTest):
    def setUp(self):
        self.inquiry = small()
        self.inquiry.keep((0, 0))
        self.inquiry.correct(1, 1, "b")
        self.inquiry.mark((1, 1))
        self.inquiry.limit = 5
        self.before = shown(self.inquiry)

    def tearDown(self):
        """All is as it was, also what undo can take back."""
        self.assertEqual(shown(self.inquiry), self.before)
        states = [state[:3] for state in all_shown(self.inquiry)]
        kept = [(0, 0)]
        self.assertEqual(states, [["adc\n.b.", kept, [(1, 1)]], ["adc\n.b.", kept, []], ["adc\n...", kept, []],
                                  ["adc\n...", [], []]])

    def test_the_answer(self):
        answer = [1]
        self.assertIs(self.inquiry.suppose(lambda inquiry: answer), answer)
        self.assertIsNone(self.inquiry.suppose(lambda inquiry: None, keep=((1, 0),)))

    def test_the_same_inquiry_with_the_evidence(self):
        def ask(inquiry):
            self.assertIs(inquiry, self.inquiry)
            return shown(inquiry)

        self.assertEqual(self.inquiry.suppose(ask), self.before)
        state = self.inquiry.suppose(ask, keep=((1, 0), (1, 0), (0, 0)), mark=((2, 0), (1, 1)))
        self.assertEqual(state[1:3], [[(0, 0), (1, 0)], [(2, 0), (1, 1)]])
        self.assertEqual(self.inquiry.suppose(ask, mark=((2, 0),))[1:3], [[(0, 0)], [(2, 0), (1, 1)]])

    def test_refused_evidence(self):
        def ask(inquiry):
            self.fail("the question is not asked")

        def refused(error, **more):
            self.refused(error, self.inquiry, self.inquiry.suppose, ask, **more)

        refused(OutOfPicture(3, 0), keep=((1, 0), (3, 0)))
        refused(NoStone(0, 1), keep=((1, 0), (0, 1)))
        refused(Opposed(1, 1), keep=((1, 0), (1, 1)))
        refused(OutOfPicture(HUGE, 0), keep=((1, 0),), mark=((2, 0), (HUGE, 0)))
        refused(NoStone(2, 1), mark=((2, 0), (2, 1)))
        refused(Opposed(0, 0), mark=((2, 0), (0, 0)))
        refused(Opposed(1, 0), keep=((1, 0),), mark=((2, 0), (1, 0)))
        refused(NoStone(0, 1), keep=((0, 1),), mark=((9, 9),))

    def test_an_ask_that_changes_everything(self):
        def ask(inquiry):
            inquiry.release((0, 0), (1, 1))
            inquiry.correct(0, 0, "z")
            inquiry.keep((0, 0))
            inquiry.mark((2, 0))
            inquiry.limit = 12
            inquiry.change_limit(0)
            return shown(inquiry)

        state = self.inquiry.suppose(ask, keep=((1, 0),))
        self.assertEqual(state[:3] + state[6:], ["zdc\n.b.", [(0, 0), (1, 0)], [(2, 0)], 0])

    def test_an_ask_that_undoes(self):
        def ask(inquiry):
            states = all_shown(inquiry)
            inquiry.keep((2, 0))
            return [state[1:3] for state in states]

        states = self.inquiry.suppose(ask, keep=((1, 0),), mark=((2, 0),))
        self.assertEqual(states, [[[(0, 0), (1, 0)], [(2, 0), (1, 1)]], [[(0, 0), (1, 0)], [(1, 1)]],
                                  [[(0, 0)], [(1, 1)]], [[(0, 0)], []], [[(0, 0)], []], [[], []]])

    def test_evidence_that_changes_nothing_is_not_undone(self):
        def ask(inquiry):
            inquiry.undo()
            return inquiry.marked

        self.assertEqual(self.inquiry.suppose(ask, keep=((0, 0),), mark=((1, 1),)), NONE)

    def test_an_ask_that_supposes_again(self):
        def inner(inquiry):
            inquiry.undo()
            inquiry.limit = 2
            return inquiry.kept, inquiry.limit

        def ask(inquiry):
            inquiry.limit = 1
            before = shown(inquiry)
            answer = inquiry.suppose(inner, mark=((2, 0),))
            self.assertEqual(shown(inquiry), before)
            self.assert_error(Opposed(1, 0), inquiry.suppose, inner, mark=((2, 0), (1, 0)))
            self.assertEqual(shown(inquiry), before)
            inquiry.undo()
            self.assertEqual(inquiry.kept, Region.of((0, 0)))
            return answer

        self.assertEqual(self.inquiry.suppose(ask, keep=((1, 0),)), (Region.of((0, 0), (1, 0)), 2))

    def test_errors_of_every_kind(self):
        errors = [Refusal(), ValueError(), KeyError("a"), SmaltiError(), Impossible([]), NothingToUndo(), StopIteration(),
                  ZeroDivisionError(), MemoryError(), KeyboardInterrupt(), SystemExit(), GeneratorExit()]
        for error in errors:
            self.raised_in_ask(error)

    def raised_in_ask(self, error):
        def ask(inquiry):
            inquiry.undo()
            inquiry.undo()
            inquiry.keep((2, 0))
            inquiry.correct(2, 1, "a")
            inquiry.limit = 9
            raise error

        with self.assertRaises(type(error)) as caught:
            self.inquiry.suppose(ask, keep=((1, 0),))
        self.assertIs(caught.exception, error)
        self.assertEqual(shown(self.inquiry), self.before)

    def test_errors_of_the_questions(self):
        self.assert_error(Impossible([(2, 0), (1, 1)]), self.inquiry.suppose, lambda asked: asked.verdict(0, 0),
                          keep=((1, 0),), mark=((2, 0),))
        self.assert_error(InvalidLimit(13), self.inquiry.suppose, lambda asked: asked.change_limit(13))

    def test_an_error_in_the_inner_question(self):
        def inner(inquiry):
            inquiry.correct(2, 0, "e")
            raise Refusal()

        def ask(inquiry):
            before = shown(inquiry)
            with self.assertRaises(Refusal):
                inquiry.suppose(inner, keep=((1, 0),))
            self.assertEqual(shown(inquiry), before)
            raise ValueError()

        with self.assertRaises(ValueError):
            self.inquiry.suppose(ask, mark=((2, 0),))

    def test_the_arguments(self):
        keep, mark = ((1, 0),), ((2, 0),)
        self.inquiry.suppose(shown, mark=mark, keep=keep)
        self.assertEqual([keep, mark], [((1, 0),), ((2, 0),)])
        with self.assertRaises(TypeError):
            self.inquiry.suppose(shown, keep)


def wander(dice, inquiry, steps):
    """Change an inquiry in any way, refusals included."""
    for _ in range(steps):
        picture = inquiry.picture
        cells = [(dice.randint(0, picture.width), dice.randint(0, picture.height - 1)) for _ in range(2)]
        cells = cells[:dice.randint(1, 2)]
        calls = [lambda: inquiry.keep(*cells), lambda: inquiry.mark(*cells), lambda: inquiry.release(*cells),
                 lambda: inquiry.correct(*cells[0], dice.choice("abc.#")), inquiry.undo,
                 lambda: inquiry.change_limit(dice.randint(-1, 13))]
        try:
            dice.choice(calls)()
        except SmaltiError:
            pass


class Wandering(InquiryTest):
    """Questions that do anything to their inquiry."""

    def test_many_questions(self):
        for seed, (book, sketch, picture, _, _) in enumerate(oracle.random_cases(59, 60)):
            asked, other = Inquiry(book, sketch, picture), Inquiry(book, sketch, picture)
            for inquiry in [asked, other]:
                wander(random.Random(seed), inquiry, 12)
            dice = random.Random(-1 - seed)

            def ask(inquiry):
                wander(dice, inquiry, 8)
                if dice.random() < 0.2:
                    raise Refusal()
                return inquiry.suppose(ask) if dice.random() < 0.6 else None

            for _ in range(3):
                try:
                    asked.suppose(ask)
                except Refusal:
                    pass
                self.assertEqual(shown(asked), shown(other))
            self.assertEqual(all_shown(asked), all_shown(other))


if __name__ == "__main__":
    unittest.main()
