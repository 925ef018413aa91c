"""smalti/inquiries.py: questions and certificates (points 2, 51 to 58 and 60)."""

import random
import time
import types
import unittest

from smalti.books import Book
from smalti.cells import Region
from smalti.clashes import Clash, check_clash
from smalti.counting import bound_of, check_bound, fewest
from smalti.errors import (Impossible, NoStone, NotNew, NotOld, OutOfPicture, StillPossible, SurelyNew, SurelyOld,
                           TooManyCases, UnknownOption)
from smalti.histories import History, check_history, history_mending
from smalti.inquiries import Inquiry
from smalti.ordering import surely_after
from smalti.peeling import wave_of
from smalti.pictures import Picture
from smalti.rules import CountRule, Rule, SameRule
from smalti.sketches import Sketch
from tests import oracle
from tests.helper import FAR, HUGE, SmaltiTest

BOOK = Book.read("d all 1,0:c\nc all -1,0:b")
NONE = Region([])

# Each b waits for one of its two neighbours.
PAIRS = Book.read("a all\nc all\nb 1 -1,0:z 1,0:z")


def about(book, sketch, picture):
    return Inquiry(Book.read(book) if isinstance(book, str) else book, Sketch.read(sketch), Picture.read(picture))


def three():
    """The example of the document: an old stone, and two that may be new."""
    return about(BOOK, "* * bc", "adc")


class QuestionTest(SmaltiTest):
    """Checks of answers by what the document says of them."""

    def check_history(self, book, sketch, inquiry, without=None):
        held = inquiry.kept | Region([without] if without else [])
        loose = oracle.loose(book, inquiry.picture, held)
        history = inquiry.history(without=without) if without else inquiry.history()
        self.assertIsInstance(history, History)
        self.assertIs(check_history(book, sketch, inquiry.picture, history), True)
        self.assertEqual([history.mended_cells(), history.mending_count()], [loose, len(loose)])
        self.assertTrue(inquiry.required.within(loose))
        fallen = [deed for deed in history.deeds if deed[0] == "fall"]
        self.assertEqual(len(set(fallen)), len(fallen))
        for cell in inquiry.picture.every_cell():
            free = cell in loose or inquiry.picture[cell] == "."
            self.assertEqual(history.first[cell], min(sketch[cell]) if free else inquiry.picture[cell])

    def check_why_old(self, book, inquiry, x, y):
        clash = inquiry.why_old(x, y)
        self.assertIsInstance(clash, Clash)
        self.assertIn((x, y), clash.region)
        self.assertIs(check_clash(book, inquiry.picture, clash, held=inquiry.kept), True)

    def check_lost(self, book, inquiry, told, among, held):
        self.assertIsInstance(told, tuple)
        u, v, clash = told
        self.assertIsInstance(clash, Clash)
        self.assertIn((u, v), among)
        self.assertIn((u, v), clash.region)
        self.assertIs(check_clash(book, inquiry.picture, clash, held=held), True)

    def check_stone(self, book, sketch, inquiry, cell):
        """The verdict of a stone, and what shows it."""
        word, x, y = inquiry.verdict(*cell), *cell
        if word == "old":
            self.check_why_old(book, inquiry, x, y)
            self.assert_error(SurelyOld(x, y), inquiry.surely_after, x, y)
        else:
            self.assert_error(NotOld(x, y), inquiry.why_old, x, y)
            self.check_history(book, sketch, inquiry)
            self.assertEqual(inquiry.surely_after(x, y), surely_after(book, inquiry.picture, x, y, held=inquiry.kept))
        if word == "new":
            self.check_lost(book, inquiry, inquiry.why_new(x, y), inquiry.required, inquiry.kept | Region.of(cell))
            self.assert_error(SurelyNew(x, y), inquiry.history, without=cell)
        else:
            self.assert_error(NotNew(x, y), inquiry.why_new, x, y)
            self.check_history(book, sketch, inquiry, without=cell)

    def check_all(self, book, sketch, inquiry):
        """Every answer about every cell of a possible inquiry."""
        picture, kept = inquiry.picture, inquiry.kept
        loose = oracle.loose(book, picture, kept)
        free = oracle.open_cells(book, sketch, picture, kept, inquiry.marked)
        rows = []
        for cell in picture.every_cell():
            word = "hole" if picture[cell] == "." else "either" if cell in free else "new" if cell in loose else "old"
            rows.append((*cell, word))
            self.assertEqual(inquiry.verdict(*cell), word)
            signs = sketch[cell] if cell in loose or picture[cell] == "." else picture[cell]
            self.assertEqual(inquiry.beginnings(*cell), signs)
            if picture[cell] != ".":
                self.check_stone(book, sketch, inquiry, cell)
        self.assertEqual(list(inquiry.verdicts()), rows)
        for word in Inquiry.WORDS:
            self.assertEqual(inquiry.cells_with(word), Region([(x, y) for x, y, own in rows if own == word]))
        self.assertEqual(inquiry.report(), self.plain_report(book, inquiry, rows))
        self.assert_error(StillPossible(), inquiry.why_impossible)

    def plain_report(self, book, inquiry, rows):
        lines = []
        for x, y, word in rows:
            sign = inquiry.picture[x, y]
            wave = 0 if sign == "." else wave_of(book, inquiry.picture, x, y, held=inquiry.kept)
            numbers = [str(x).rjust(2), str(y).rjust(3)]
            lines.append("".join(numbers) + " " + sign + " " + word.ljust(6) + str(wave).rjust(3))
        return "\n".join(lines)


class Examples(QuestionTest):
    def test_first_example(self):
        inquiry = three()
        before = list(inquiry.verdicts())
        changed = inquiry.mark((2, 0))
        self.assertEqual([before, changed, list(inquiry.verdicts())],
                         [[(0, 0, "old"), (1, 0, "either"), (2, 0, "either")], 1,
                          [(0, 0, "old"), (1, 0, "new"), (2, 0, "new")]])

    def test_second_example(self):
        self.assert_error(Impossible([(0, 0)]), about(Book([]), "b *", "a.").verdict, 1, 0)


class Verdicts(QuestionTest):
    def test_each_word(self):
        inquiry = about(BOOK, "* * b * *", "adcq.")
        self.assertEqual(list(inquiry.verdicts()),
                         [(0, 0, "old"), (1, 0, "new"), (2, 0, "new"), (3, 0, "old"), (4, 0, "hole")])
        self.check_all(BOOK, Sketch.read("* * b * *"), inquiry)

    def test_what_evidence_does(self):
        inquiry = three()
        self.assertEqual([inquiry.verdict(x, 0) for x in range(3)], ["old", "either", "either"])
        inquiry.keep((2, 0))
        self.assertEqual([inquiry.verdict(x, 0) for x in range(3)], ["old", "either", "old"])
        inquiry.mark((1, 0))
        self.assertEqual([inquiry.verdict(x, 0) for x in range(3)], ["old", "new", "old"])
        inquiry.undo()
        inquiry.undo()
        inquiry.keep((1, 0))
        self.assertEqual([inquiry.verdict(x, 0) for x in range(3)], ["old", "old", "old"])

    def test_one_of_two_is_enough(self):
        inquiry = about(PAIRS, "* z *", "abc")
        self.assertEqual([word for _, _, word in inquiry.verdicts()], ["either", "new", "either"])
        inquiry.keep((2, 0))
        self.assertEqual([word for _, _, word in inquiry.verdicts()], ["new", "new", "old"])
        inquiry.release((2, 0))
        inquiry.mark((0, 0), (2, 0))
        self.assertEqual([word for _, _, word in inquiry.verdicts()], ["new", "new", "new"])

    def test_a_sketch_that_fits(self):
        inquiry = about("same 0", "a b", "ab")
        self.assertEqual([word for _, _, word in inquiry.verdicts()], ["either", "either"])

    def test_the_books_without_rules_and_with_all(self):
        for rows in ["a", ".", "ab\n.c", "abcdefgh"]:
            picture = Picture.read(rows)
            for book in [Book([]), Book.read("same 0")]:
                sketch = Sketch(picture.width, picture.height)
                inquiry = Inquiry(book, sketch, picture)
                self.assertEqual(inquiry.cells_with("old" if len(book) == 0 else "either"), picture.stones())
                self.assertEqual(inquiry.cells_with("hole"), picture.holes())
                self.check_all(book, sketch, inquiry)

    def test_cells_outside(self):
        for inquiry in [three(), about(BOOK, "b * *", "adc")]:
            for x, y in FAR:
                self.assert_error(OutOfPicture(x, y), inquiry.verdict, x, y)

    def test_verdicts_is_a_generator(self):
        inquiry = three()
        self.assertIsInstance(inquiry.verdicts(), types.GeneratorType)
        rows = inquiry.verdicts()
        self.assertEqual(next(rows), (0, 0, "old"))
        self.assertEqual(list(inquiry.verdicts())[0], (0, 0, "old"))
        self.assertEqual([next(rows), next(rows)], [(1, 0, "either"), (2, 0, "either")])

    def test_impossible_before_the_first_tuple(self):
        self.assert_error(Impossible([(2, 0)]), next, about(BOOK, "* * b", "aac").verdicts())

    def test_cells_with(self):
        inquiry = about(BOOK, "* * b * *", "adcq.")
        regions = [inquiry.cells_with(word) for word in Inquiry.WORDS]
        self.assertEqual([str(region) for region in regions], ["4,0", "0,0 3,0", "1,0 2,0", "-"])
        for word in ["", "Old", "holes", "olds", "a", ".", "hole old"]:
            self.assertIsInstance(inquiry.cells_with(word), Region)
            self.assertEqual(inquiry.cells_with(word), NONE)

    def test_histories_themselves(self):
        """Verdicts, first pictures and least numbers, compared with all histories in small."""
        words = []
        for book, sketch, picture, letters in oracle.small_cases(52, 150):
            world = oracle.World(book, sketch, picture, letters)
            dice = random.Random(len(world.mendings))
            for _ in range(4):
                evidence = {cell: dice.choice(["keep", "mark", "", "", ""]) for cell in picture.stones().cells()}
                words.extend(self.compare(world, Inquiry(book, sketch, picture), evidence))
        for word in ["hole", "old", "new", "either", "impossible"]:
            self.assertGreater(words.count(word), 30, word)

    def compare(self, world, inquiry, evidence):
        kept = [cell for cell, word in evidence.items() if word == "keep"]
        marked = [cell for cell, word in evidence.items() if word == "mark"]
        inquiry.keep(*kept)
        inquiry.mark(*marked)
        endings = world.endings(kept, marked)
        self.assertIs(inquiry.possible, endings != [])
        if not endings:
            return ["impossible"]
        words = []
        for cell in world.cells:
            found = {cell in mended for _, mended in endings}
            word = {(True,): "new", (False,): "old"}.get(tuple(found), "either")
            words.append("hole" if inquiry.picture[cell] == "." else word)
        self.assertEqual([word for _, _, word in inquiry.verdicts()], words)
        firsts = world.beginnings(kept, marked)
        self.assertEqual(inquiry.beginnings_count(), len(firsts))
        for at, cell in enumerate(world.cells):
            self.assertEqual(inquiry.beginnings(*cell), "".join(sorted({signs[at] for signs in firsts})))
        self.assertEqual(inquiry.fewest(), min(world.mendings[state] for state in endings))
        return words

    def test_with_many_cases(self):
        counts = [0, 0]
        for book, sketch, picture, held, marked in oracle.random_cases(55, 150):
            inquiry = Inquiry(book, sketch, picture)
            inquiry.keep(*((held or NONE) & picture.stones()).cells())
            inquiry.mark(*((marked or NONE) & (picture.stones() - inquiry.kept)).cells())
            counts[inquiry.possible] += 1
            if inquiry.possible:
                self.check_all(book, sketch, inquiry)
            else:
                self.check_lost(book, inquiry, inquiry.why_impossible(), inquiry.missing, inquiry.kept)
        self.assertGreater(min(counts), 30)


class AnImpossibleInquiry(QuestionTest):
    """Two cells of it are missing: one is required, one is marked."""

    LACKING = [(3, 0), (0, 1)]

    def setUp(self):
        self.inquiry = about(BOOK, "* * * *\nz * * *", "adcq\nqbq.")
        self.inquiry.mark((3, 0), (2, 0))

    def questions(self):
        """Each question that has no answer, about cells with and without a stone."""
        asked = self.inquiry
        plain = [asked.select, asked.report, asked.history, asked.beginnings_count, asked.fewest, asked.fewest_cells,
                 asked.bound, lambda: list(asked.verdicts()), lambda: asked.history(without=None)]
        for word in [*Inquiry.WORDS, "", "other"]:
            plain.append(lambda word=word: asked.cells_with(word))
            plain.append(lambda word=word: asked.select(verdict=word, x=HUGE))
        for x, y in [(0, 0), (1, 0), (2, 0), (3, 0), (0, 1)]:
            for call in [asked.why_old, asked.why_new, asked.surely_after]:
                plain.append(lambda call=call, x=x, y=y: call(x, y))
            plain.append(lambda x=x, y=y: asked.history(without=(x, y)))
        for x, y in asked.picture.every_cell():
            plain.append(lambda x=x, y=y: asked.verdict(x, y))
            plain.append(lambda x=x, y=y: asked.beginnings(x, y))
        return plain

    def test_every_question_raises_its_own_list(self):
        for question in self.questions() * 2:
            with self.assertRaises(Impossible) as caught:
                question()
            self.assertEqual(caught.exception.lacking, self.LACKING)
            caught.exception.lacking.append((9, 9))

    def test_what_it_still_shows(self):
        self.assertEqual([self.inquiry.required, self.inquiry.missing, self.inquiry.possible],
                         [Region.of((2, 0), (3, 0), (0, 1)), Region.of((3, 0), (0, 1)), False])

    def test_cells_outside_and_holes_come_first(self):
        asked = self.inquiry
        for x, y in [(4, 0), (0, 2), (-1, 0), (0, -1), (HUGE, 0), (0, -HUGE)]:
            for call in [asked.verdict, asked.beginnings, asked.why_old, asked.why_new, asked.surely_after]:
                self.assert_error(OutOfPicture(x, y), call, x, y)
            self.assert_error(OutOfPicture(x, y), asked.history, without=(x, y))
        for call in [asked.why_old, asked.why_new, asked.surely_after]:
            self.assert_error(NoStone(3, 1), call, 3, 1)
        self.assert_error(NoStone(3, 1), asked.history, without=(3, 1))

    def test_unknown_options_come_first(self):
        self.assert_error(UnknownOption("w"), self.inquiry.select, w=1, verdict="old")

    def test_why_impossible(self):
        sketch = Sketch.read("* * * *\nz * * *")
        for _ in range(2):
            u, v, clash = self.inquiry.why_impossible()
            self.check_lost(BOOK, self.inquiry, (u, v, clash), Region(self.LACKING), NONE)
        self.inquiry.undo()
        self.assertEqual(self.inquiry.missing, Region.of((0, 1)))
        self.inquiry.correct(0, 1, "z")
        self.assertIs(self.inquiry.possible, True)
        self.check_all(BOOK, sketch, self.inquiry)

    def test_why_impossible_with_kept_cells(self):
        inquiry = three()
        inquiry.mark((2, 0))
        inquiry.keep((1, 0))
        self.assertEqual(inquiry.missing, Region.of((2, 0)))
        u, v, clash = inquiry.why_impossible()
        self.assertEqual((u, v), (2, 0))
        self.assertIs(check_clash(BOOK, inquiry.picture, clash), False)
        self.assertIs(check_clash(BOOK, inquiry.picture, clash, held=Region.of((1, 0))), True)

    def test_a_needed_cell_that_is_kept(self):
        inquiry = about("same 0", "z *", "ab")
        inquiry.keep((0, 0))
        self.assert_error(Impossible([(0, 0)]), inquiry.history)
        self.check_lost(Book.read("same 0"), inquiry, inquiry.why_impossible(), Region.of((0, 0)), Region.of((0, 0)))

    def test_an_undone_impossible_inquiry_answers(self):
        inquiry = three()
        inquiry.keep((1, 0))
        inquiry.mark((2, 0))
        self.assert_error(Impossible([(2, 0)]), inquiry.verdict, 0, 0)
        inquiry.undo()
        self.assertEqual(inquiry.verdict(2, 0), "old")


class Selecting(QuestionTest):
    def setUp(self):
        self.inquiry = about(BOOK, "* * b *\n* * * *", "adcq\nd.ca")

    def test_no_option(self):
        cells = self.inquiry.select()
        self.assertIsInstance(cells, list)
        self.assertEqual(cells, self.inquiry.picture.every_cell())

    def test_verdict(self):
        self.assertEqual(self.inquiry.select(verdict="new"), [(1, 0), (2, 0)])
        self.assertEqual(self.inquiry.select(verdict="hole"), [(1, 1)])
        self.assertEqual(self.inquiry.select(verdict="either"), [(0, 1), (2, 1)])
        self.assertEqual(self.inquiry.select(verdict="old"), [(0, 0), (3, 0), (3, 1)])

    def test_stone(self):
        self.assertEqual(self.inquiry.select(stone="d"), [(1, 0), (0, 1)])
        self.assertEqual(self.inquiry.select(stone="."), [(1, 1)])
        self.assertEqual(self.inquiry.select(stone="q"), [(3, 0)])

    def test_x_and_y(self):
        self.assertEqual(self.inquiry.select(x=0), [(0, 0), (0, 1)])
        self.assertEqual(self.inquiry.select(x=3), [(3, 0), (3, 1)])
        self.assertEqual(self.inquiry.select(y=1), [(0, 1), (1, 1), (2, 1), (3, 1)])
        self.assertEqual(self.inquiry.select(y=0), [(0, 0), (1, 0), (2, 0), (3, 0)])

    def test_wave(self):
        self.assertEqual(self.inquiry.select(wave=0), [(0, 0), (3, 0), (1, 1), (3, 1)])
        self.assertEqual(self.inquiry.select(wave=1), [(1, 0), (0, 1), (2, 1)])
        self.assertEqual(self.inquiry.select(wave=2), [(2, 0)])
        self.inquiry.correct(1, 0, "a")
        self.inquiry.correct(2, 0, "b")
        self.assertEqual(self.inquiry.select(wave=2), [])

    def test_the_waves_of_kept_cells(self):
        inquiry = three()
        inquiry.keep((1, 0))
        self.assertEqual([inquiry.select(wave=0), inquiry.select(wave=1)], [[(0, 0), (1, 0), (2, 0)], []])

    def test_several_options(self):
        self.assertEqual(self.inquiry.select(verdict="old", y=0), [(0, 0), (3, 0)])
        self.assertEqual(self.inquiry.select(stone="c", verdict="new", x=2, y=0, wave=2), [(2, 0)])
        self.assertEqual(self.inquiry.select(wave=0, stone="."), [(1, 1)])
        self.assertEqual(self.inquiry.select(stone="c", verdict="new", x=2, y=0, wave=1), [])
        self.assertEqual(self.inquiry.select(stone="a", x=1), [])

    def test_values_of_no_cell(self):
        for wanted in [{"verdict": "mended"}, {"verdict": ""}, {"stone": "#"}, {"stone": ""}, {"stone": "z"},
                       {"stone": "ad"}, {"x": -1}, {"x": 4}, {"y": 2}, {"y": -HUGE}, {"x": HUGE}, {"wave": -1},
                       {"wave": 3}, {"wave": HUGE}]:
            self.assertEqual(self.inquiry.select(**wanted), [], wanted)

    def test_unknown_options(self):
        for names, first in [(["z"], "z"), (["b", "a"], "a"), (["verdict", "x", "w", "X"], "X"), (["_x", "xy"], "_x"),
                             (["a", "_a", "Z"], "Z"), (["waves", "wav", "stones"], "stones"), (["Verdict", "x"], "Verdict"),
                             (["a1", "a", "A"], "A"), ([""], ""), (["a b", "a-b"], "a b")]:
            self.assert_error(UnknownOption(first), self.inquiry.select, **{name: 0 for name in names})

    def test_the_options_are_not_modified(self):
        wanted = {"x": 0, "verdict": "old"}
        self.assertEqual(self.inquiry.select(**wanted), [(0, 0)])
        self.assertEqual(wanted, {"x": 0, "verdict": "old"})

    def test_every_option_with_many_cases(self):
        for book, sketch, picture, _, _ in oracle.random_cases(54, 60):
            inquiry = Inquiry(book, sketch, picture)
            if inquiry.possible:
                self.compare(book, inquiry, random.Random(len(picture)))

    def compare(self, book, inquiry, dice):
        values = {}
        for x, y, word in inquiry.verdicts():
            sign = inquiry.picture[x, y]
            wave = 0 if sign == "." else wave_of(book, inquiry.picture, x, y)
            values[x, y] = {"verdict": word, "stone": sign, "x": x, "y": y, "wave": wave}
        for _ in range(20):
            names = dice.sample(["verdict", "stone", "x", "y", "wave"], dice.randint(0, 5))
            wanted = {name: dice.choice(list(values.values()))[name] for name in names}
            cells = [cell for cell in inquiry.picture.every_cell()
                     if all(values[cell][name] == value for name, value in wanted.items())]
            self.assertEqual(inquiry.select(**wanted), cells)


class Certificates(QuestionTest):
    def test_history(self):
        sketch = Sketch.read("* * bc")
        inquiry = three()
        self.check_history(BOOK, sketch, inquiry)
        self.assertEqual(inquiry.history().text(), history_mending(BOOK, sketch, inquiry.picture).text())
        for cell in [(0, 0), (1, 0), (2, 0)]:
            self.check_history(BOOK, sketch, inquiry, without=cell)
        inquiry.keep((2, 0))
        self.check_history(BOOK, sketch, inquiry)
        self.assertEqual(inquiry.history().mended_cells(), Region.of((1, 0)))
        self.assertEqual(inquiry.history(without=(1, 0)).deeds, [])

    def test_history_without_a_cell_that_is_new(self):
        inquiry = three()
        inquiry.mark((2, 0))
        for x in [1, 2]:
            self.assert_error(SurelyNew(x, 0), inquiry.history, without=(x, 0))
        self.check_history(BOOK, Sketch.read("* * bc"), inquiry, without=(0, 0))

    def test_history_is_new_each_time(self):
        inquiry = three()
        inquiry.history().deeds.clear()
        self.assertEqual(inquiry.history().mending_count(), 2)

    def test_why_old(self):
        inquiry = three()
        self.check_why_old(BOOK, inquiry, 0, 0)
        for x in [1, 2]:
            self.assert_error(NotOld(x, 0), inquiry.why_old, x, 0)
        inquiry.keep((1, 0))
        for x in [0, 1, 2]:
            self.check_why_old(BOOK, inquiry, x, 0)

    def test_why_new(self):
        inquiry = three()
        for x in range(3):
            self.assert_error(NotNew(x, 0), inquiry.why_new, x, 0)
        inquiry.mark((2, 0))
        u, v, clash = inquiry.why_new(1, 0)
        self.assertEqual((u, v), (2, 0))
        self.assertIs(check_clash(BOOK, inquiry.picture, clash, held=Region.of((1, 0))), True)
        self.assertIs(check_clash(BOOK, inquiry.picture, clash), False)
        self.assertEqual(inquiry.why_new(2, 0)[:2], (2, 0))
        self.assert_error(NotNew(0, 0), inquiry.why_new, 0, 0)

    def test_why_new_of_one_that_two_cells_wait_for(self):
        inquiry = about("a all\nb all -1,0:z\nc all 1,0:z", "* * *", "cab")
        inquiry.mark((0, 0), (2, 0))
        self.check_lost(Book.read("a all\nb all -1,0:z\nc all 1,0:z"), inquiry, inquiry.why_new(1, 0),
                        Region.of((0, 0), (2, 0)), Region.of((1, 0)))

    def test_surely_after(self):
        inquiry = three()
        self.assertEqual([inquiry.surely_after(1, 0), inquiry.surely_after(2, 0)], [NONE, Region.of((1, 0))])
        self.assert_error(SurelyOld(0, 0), inquiry.surely_after, 0, 0)
        inquiry.keep((1, 0))
        self.assert_error(SurelyOld(2, 0), inquiry.surely_after, 2, 0)
        pairs = about(PAIRS, "* z *", "abc")
        self.assertEqual(pairs.surely_after(1, 0), NONE)
        pairs.keep((0, 0))
        self.assertEqual(pairs.surely_after(1, 0), Region.of((2, 0)))

    def test_the_order_of_the_errors(self):
        inquiry = about(BOOK, "* * bc\n* * *", "adc\n...")
        for x, y in FAR:
            for call in [inquiry.why_old, inquiry.why_new, inquiry.surely_after, inquiry.beginnings]:
                self.assert_error(OutOfPicture(x, y), call, x, y)
            self.assert_error(OutOfPicture(x, y), inquiry.history, without=(x, y))
        for call in [inquiry.why_old, inquiry.why_new, inquiry.surely_after]:
            self.assert_error(NoStone(1, 1), call, 1, 1)
        self.assert_error(NoStone(1, 1), inquiry.history, without=(1, 1))
        self.assert_error(StillPossible(), inquiry.why_impossible)

    def test_without_is_passed_by_keyword(self):
        with self.assertRaises(TypeError):
            three().history((1, 0))


class Beginnings(QuestionTest):
    def test_each_kind_of_cell(self):
        inquiry = about(BOOK, "az q.c cb hi.", "adc.")
        self.assertEqual([inquiry.beginnings(x, 0) for x in range(4)], ["a", ".cq", "bc", ".hi"])
        self.assertEqual(inquiry.beginnings_count(), 1 * 3 * 2 * 3)
        inquiry.keep((2, 0))
        self.assertEqual([inquiry.beginnings(x, 0) for x in range(4)], ["a", ".cq", "c", ".hi"])
        self.assertEqual(inquiry.beginnings_count(), 9)

    def test_the_present_stone_needs_not_be_among_them(self):
        inquiry = about(BOOK, "* * b", "adc")
        self.assertEqual(inquiry.beginnings(2, 0), "b")
        inquiry = three()
        inquiry.mark((2, 0))
        self.assertEqual(inquiry.beginnings(2, 0), "bc")

    def test_all_signs(self):
        inquiry = about("same 0", "* *", "a.")
        self.assertEqual([inquiry.beginnings(0, 0), inquiry.beginnings(1, 0)], [Sketch.ANY] * 2)
        self.assertEqual(inquiry.beginnings_count(), 27 ** 2)
        inquiry = Inquiry(Book.read("same 0"), Sketch(8, 8), Picture.plain(8, 8, "q"))
        self.assertEqual(inquiry.beginnings_count(), 27 ** 64)
        inquiry = Inquiry(Book([]), Sketch(8, 8), Picture.plain(8, 8, "q"))
        self.assertEqual(inquiry.beginnings_count(), 1)


class Counts(QuestionTest):
    def check_counts(self, book, sketch, inquiry, number):
        evidence = {"held": inquiry.kept, "marked": inquiry.marked}
        self.assertEqual(inquiry.fewest(), number)
        cells = inquiry.fewest_cells()
        self.assertEqual(len(cells), number)
        self.assertTrue(inquiry.required.within(cells))
        history = history_mending(book, sketch, inquiry.picture, held=inquiry.picture.stones() - cells)
        self.assertEqual(history.mended_cells(), cells)
        rows = inquiry.bound()
        self.assertIs(check_bound(book, sketch, inquiry.picture, number, rows, **evidence), True)
        self.assertEqual(len(rows), len(bound_of(book, sketch, inquiry.picture, limit=12, **evidence)))

    def test_with_evidence(self):
        sketch = Sketch.read("* * bc")
        inquiry = three()
        self.check_counts(BOOK, sketch, inquiry, 0)
        inquiry.mark((1, 0))
        self.check_counts(BOOK, sketch, inquiry, 1)
        inquiry.mark((2, 0))
        self.check_counts(BOOK, sketch, inquiry, 2)
        inquiry.release((1, 0))
        self.check_counts(BOOK, sketch, inquiry, 2)
        inquiry.keep((1, 0))
        for call in [inquiry.fewest, inquiry.fewest_cells, inquiry.bound]:
            self.assert_error(Impossible([(2, 0)]), call)

    def test_kept_cells(self):
        sketch = Sketch.read("* z * z *")
        inquiry = about(PAIRS, sketch.text(), "abcba")
        self.check_counts(PAIRS, sketch, inquiry, 3)
        self.assertEqual(inquiry.fewest_cells(), Region.of((1, 0), (2, 0), (3, 0)))
        inquiry.keep((2, 0))
        self.check_counts(PAIRS, sketch, inquiry, 4)

    def test_impossible_comes_before_too_many_cases(self):
        inquiry = about("same 0", "* *", "ab")
        inquiry.limit = 0
        inquiry.mark((0, 0))
        self.assert_error(TooManyCases(1), inquiry.fewest)
        kept = about("same 0", "z * *", "abc")
        kept.limit = 0
        kept.keep((0, 0))
        for call in [kept.fewest, kept.fewest_cells, kept.bound]:
            self.assert_error(Impossible([(0, 0)]), call)

    def test_no_open_cells_and_limit_0(self):
        inquiry = about(BOOK, "* * b", "adc")
        inquiry.limit = 0
        self.check_counts(BOOK, Sketch.read("* * b"), inquiry, 2)

    def test_with_many_cases(self):
        for book, sketch, picture, held, marked in oracle.random_cases(58, 100):
            inquiry = Inquiry(book, sketch, picture)
            inquiry.limit = 12
            inquiry.keep(*((held or NONE) & picture.stones()).cells())
            inquiry.mark(*((marked or NONE) & (picture.stones() - inquiry.kept)).cells())
            if inquiry.possible:
                number = fewest(book, sketch, picture, held=held, marked=inquiry.marked, limit=12)
                self.check_counts(book, sketch, inquiry, number)

    def test_the_lists_of_a_bound_are_new(self):
        inquiry = about(PAIRS, "* z *", "abc")
        for row in inquiry.bound():
            row[1].append((7, 7))
            row[2].append((7, 7))
        self.assertIs(check_bound(PAIRS, Sketch.read("* z *"), inquiry.picture, 2, inquiry.bound()), True)


class Reports(QuestionTest):
    def test_one_row(self):
        self.assertEqual(three().report(), " 0  0 a old     0\n 1  0 d either  1\n 2  0 c either  2")

    def test_holes_and_needed_cells(self):
        inquiry = about(BOOK, "* * b\n* * *", "adc\n.q.")
        self.assertEqual(inquiry.report().split("\n"), [
            " 0  0 a old     0",
            " 1  0 d new     1",
            " 2  0 c new     2",
            " 0  1 . hole    0",
            " 1  1 q old     0",
            " 2  1 . hole    0",
        ])

    def test_one_cell(self):
        self.assertEqual(about("same 0", "*", ".").report(), " 0  0 . hole    0")
        self.assertEqual(about("same 0", "b", "a").report(), " 0  0 a new     1")

    def test_waves_of_two_digits(self):
        book, picture = Book.read("a all -1,0:#\nb all 1,0:#\nc all 0,-1:#"), Picture(
            ["aaaaaaaa", "bbbbbbbc", "caaaaaaa", "bbbbbbbc", "caaaaaaa", "bbbbbbbc", "caaaaaaa", "bbbbbbbc"])
        lines = Inquiry(book, Sketch(8, 8), picture).report().split("\n")
        self.assertEqual(len(lines), 64)
        self.assertEqual([lines[0], lines[7], lines[8], lines[15], lines[56]],
                         [" 0  0 a either  1", " 7  0 a either  8", " 0  1 b either 16", " 7  1 c either  9",
                          " 0  7 b either 64"])

    def test_the_present_evidence_counts(self):
        inquiry = three()
        inquiry.keep((2, 0))
        inquiry.correct(0, 0, "z")
        self.assertEqual(inquiry.report(), " 0  0 z old     0\n 1  0 d either  1\n 2  0 c old     0")


class Independence(QuestionTest):
    def test_lists_that_were_returned(self):
        inquiry = three()
        inquiry.select().clear()
        inquiry.surely_after(2, 0).cells().clear()
        inquiry.cells_with("old").cells().append((1, 0))
        self.assertEqual([inquiry.select(), inquiry.surely_after(2, 0), inquiry.cells_with("old")],
                         [[(0, 0), (1, 0), (2, 0)], Region.of((1, 0)), Region.of((0, 0))])

    def test_questions_change_nothing(self):
        inquiry, sketch = three(), Sketch.read("* * bc")
        inquiry.mark((1, 0))
        for _ in range(2):
            self.check_all(BOOK, sketch, inquiry)
            self.assertEqual([inquiry.kept, inquiry.marked, inquiry.limit], [NONE, Region.of((1, 0)), 8])
        inquiry.undo()
        self.assertEqual(inquiry.marked, NONE)


class Largest(QuestionTest):
    """Pictures of 8 by 8 cells and books of 20 rules with 8 conditions: in seconds."""

    def in_seconds(self, book, sketch, picture):
        start = time.process_time()
        inquiry = Inquiry(book, sketch, picture)
        rows = list(inquiry.verdicts())
        self.assertEqual([len(rows), len(inquiry.report().split("\n")), len(inquiry.select())], [64, 64, 64])
        for x, y, word in rows:
            if word in ["new", "either"]:
                inquiry.surely_after(x, y)
            if word == "old":
                self.check_why_old(book, inquiry, x, y)
            if word == "new":
                inquiry.why_new(x, y)
        self.assertIs(check_history(book, sketch, picture, inquiry.history()), True)
        self.assertLess(time.process_time() - start, 20)
        return {word for _, _, word in rows}

    def test_rules_for_every_stone(self):
        eight = [(dx, dy) for dx in (-1, 0, 1) for dy in (-1, 0, 1) if (dx, dy) != (0, 0)]
        book = Book([SameRule(eight, 5)] * 20)
        picture = Picture(["aaaabbbb"] * 4 + ["bbbbaaaa"] * 4)
        sketch = Sketch(8, 8)
        sketch[3, 3] = "z"
        self.in_seconds(book, sketch, picture)

    def test_a_long_chain(self):
        far = [(dx, 3, "#a") for dx in range(-3, 4)]
        book = Book([CountRule("a", far + [(0, -1, "#")], 8)] * 10 + [Rule("a", [(-1, 0, "#"), (0, -1, "#")])] * 10)
        sketch = Sketch(8, 8)
        sketch[7, 7] = "b"
        self.assertEqual(self.in_seconds(book, sketch, Picture.plain(8, 8, "a")), {"new", "either"})

    def test_evidence_for_every_cell(self):
        start = time.process_time()
        eight = [(dx, dy) for dx in (-1, 0, 1) for dy in (-1, 0, 1) if (dx, dy) != (0, 0)]
        inquiry = Inquiry(Book([SameRule(eight, 5)] * 20), Sketch(8, 8), Picture.plain(8, 8, "a"))
        for cell in inquiry.picture.every_cell():
            inquiry.mark(cell)
        for _ in range(64):
            inquiry.undo()
        for x, y in inquiry.picture.every_cell():
            inquiry.correct(x, y, "b")
        self.assertEqual(inquiry.picture, Picture.plain(8, 8, "b"))
        self.assertLess(time.process_time() - start, 20)


if __name__ == "__main__":
    unittest.main()
