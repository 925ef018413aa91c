"""smalti/sites.py: sites and menders (points 2 and 24 to 28)."""

import unittest

from smalti.books import Book
from smalti.cells import Region
from smalti.errors import (BadDeed, NoHole, NoRule, NoStone, NothingToUndo, OutOfPicture, RuleClash,
                           WrongStone)
from smalti.pictures import Picture
from smalti.sites import Mender, Site
from tests.helper import FAR, HUGE, SmaltiTest

NOT_STONES = ["", "#", ".", "A", "ab", " "]


def state(site):
    counts = [site.mendings(x, y) for x, y in site.picture.every_cell()]
    return [str(site.picture), site.mended.cells(), site.total, counts, site.log()]


class Examples(SmaltiTest):
    def test_run_and_undo(self):
        site = Site(Book.read("c all -1,0:b"), Picture.read("a.."))
        count = site.run([("mend", 2, 0, 0, "c"), ("fall", 2, 0)])
        shown = [count, str(site.picture), site.mended.cells(), site.undo(), str(site.picture)]
        self.assertEqual(shown, [2, "a..", [(2, 0)], ("fall", 2, 0), "a.c"])

    def test_a_clash(self):
        site = Site(Book.read("c all -1,0:b"), Picture.read("a.."))
        self.assert_error(RuleClash([(0, 0)]), site.mend, 1, 0, 0, "c")


class Refusing(SmaltiTest):
    """A site with what refused deeds must leave as it is."""

    def setUp(self):
        self.book = Book.read("c all -1,0:b\nsame 1 -1,0 1,0\nd 1 -1,0:a 1,0:a 0,1:a\ne all")
        self.site = Site(self.book, Picture.read("a.b\n.c."))
        self.site.run([("fall", 0, 0), ("mend", 0, 0, 3, "e"), ("fall", 0, 0), ("mend", 0, 0, 3, "e")])

    def refused(self, error, deed, *arguments):
        before = state(self.site)
        self.assert_error(error, deed, *arguments)
        self.assertEqual(state(self.site), before)


class Falling(Refusing):
    def test_the_stone_falls_out(self):
        self.assertIsNone(self.site.fall(2, 0))
        self.assertEqual(str(self.site.picture), "e..\n.c.")
        self.assertEqual(self.site.log()[-1], ("fall", 2, 0))
        self.assertEqual([self.site.total, self.site.mendings(2, 0)], [2, 0])

    def test_out_of_picture(self):
        for x, y in FAR:
            self.refused(OutOfPicture(x, y), self.site.fall, x, y)

    def test_no_stone(self):
        for x, y in [(1, 0), (0, 1), (2, 1)]:
            self.refused(NoStone(x, y), self.site.fall, x, y)

    def test_a_stone_falls_once(self):
        self.site.fall(2, 0)
        self.refused(NoStone(2, 0), self.site.fall, 2, 0)


class Mending(Refusing):
    def test_the_stone_is_laid(self):
        self.assertIsNone(self.site.mend(1, 0, 1, "b"))
        self.assertEqual(str(self.site.picture), "ebb\n.c.")
        self.assertEqual(self.site.log()[-1], ("mend", 1, 0, 1, "b"))
        self.assertEqual(self.site.mended, Region.of((0, 0), (1, 0)))
        self.assertEqual([self.site.total, self.site.mendings(1, 0), self.site.mendings(0, 0)], [3, 1, 2])

    def test_the_rule_with_the_number_is_asked(self):
        self.refused(RuleClash([(0, 0)]), self.site.mend, 1, 0, 0, "c")
        self.site.mend(1, 0, 3, "e")
        self.assertEqual(str(self.site.picture), "eeb\n.c.")

    def test_out_of_picture(self):
        for x, y in FAR:
            for number in [0, 99, -1]:
                self.refused(OutOfPicture(x, y), self.site.mend, x, y, number, "c")
                self.refused(OutOfPicture(x, y), self.site.mend, x, y, number, "#")

    def test_no_hole(self):
        for x, y in [(0, 0), (2, 0), (1, 1)]:
            for number, stone in [(0, "c"), (99, "c"), (-1, ""), (3, "e")]:
                self.refused(NoHole(x, y), self.site.mend, x, y, number, stone)

    def test_no_rule(self):
        for number in [4, 5, 20, -1, -4, HUGE, -HUGE]:
            for stone in ["c", "z", ""]:
                self.refused(NoRule(number), self.site.mend, 1, 0, number, stone)
        site = Site(Book([]), Picture.read("."))
        self.assert_error(NoRule(0), site.mend, 0, 0, 0, "a")

    def test_wrong_stone(self):
        for stone in ["z"] + NOT_STONES:
            self.refused(WrongStone(stone), self.site.mend, 1, 0, 0, stone)
        for stone in NOT_STONES:
            self.refused(WrongStone(stone), self.site.mend, 1, 0, 1, stone)

    def test_wrong_stone_comes_before_the_clash(self):
        site = Site(Book.read("c all -1,0:b"), Picture.read("a."))
        self.assert_error(WrongStone("d"), site.mend, 1, 0, 0, "d")

    def test_a_clash_with_all_positions_in_reading_order(self):
        self.refused(RuleClash([(0, 0), (2, 0), (1, 1)]), self.site.mend, 1, 0, 2, "d")
        self.refused(RuleClash([(0, 0), (2, 0)]), self.site.mend, 1, 0, 1, "z")

    def test_as_many_clashes_as_the_slack_allows(self):
        site = Site(self.book, Picture.read("b.b\n.a."))
        site.mend(1, 0, 2, "d")
        self.assertEqual(str(site.picture), "bdb\n.a.")

    def test_the_picture_of_that_moment_counts(self):
        site = Site(Book.read("c all -1,0:b\nb all"), Picture.read("a."))
        self.assert_error(RuleClash([(0, 0)]), site.mend, 1, 0, 0, "c")
        site.fall(0, 0)
        site.mend(1, 0, 0, "c")
        site.fall(1, 0)
        site.mend(0, 0, 1, "b")
        site.mend(1, 0, 0, "c")
        self.assertEqual([str(site.picture), site.total, site.mendings(1, 0)], ["bc", 3, 2])

    def test_the_list_of_the_error_is_new(self):
        for _ in range(2):
            with self.assertRaises(RuleClash) as caught:
                self.site.mend(1, 0, 0, "c")
            self.assertEqual(caught.exception.places, [(0, 0)])
            caught.exception.places.clear()


class Showing(SmaltiTest):
    def setUp(self):
        self.site = Site(Book.read("same 0"), Picture.read("ab\n.."))

    def test_at_first(self):
        self.assertEqual(state(self.site), ["ab\n..", [], 0, [0, 0, 0, 0], []])

    def test_mended_cells_stay_mended_when_they_fall(self):
        self.site.run([("mend", 1, 1, 0, "q"), ("fall", 1, 1), ("mend", 0, 1, 0, "r")])
        self.assertEqual(str(self.site.picture), "ab\nr.")
        self.assertEqual(self.site.mended.cells(), [(0, 1), (1, 1)])
        self.assertEqual([self.site.total, self.site.mendings(1, 1)], [2, 1])

    def test_mendings_out_of_picture(self):
        for x, y in [(-1, 0), (2, 0), (0, 2), (HUGE, 0), (0, -HUGE)]:
            self.assert_error(OutOfPicture(x, y), self.site.mendings, x, y)

    def test_picture_mended_and_total_are_properties(self):
        for name in ["picture", "mended", "total"]:
            self.assertIsInstance(vars(Site)[name], property)

    def test_kinds_of_values(self):
        self.site.mend(0, 1, 0, "q")
        self.assertEqual([type(self.site.picture), type(self.site.mended)], [Picture, Region])
        self.assertEqual([type(self.site.log()), type(self.site.log()[0])], [list, tuple])

    def test_deeds_in_order(self):
        deeds = [("fall", 0, 0), ("mend", 0, 0, 0, "z"), ("fall", 1, 0), ("mend", 1, 1, 0, "y")]
        self.site.fall(0, 0)
        self.site.mend(0, 0, 0, "z")
        self.site.fall(1, 0)
        self.site.mend(1, 1, 0, "y")
        self.assertEqual(self.site.log(), deeds)


class Undoing(SmaltiTest):
    def setUp(self):
        self.site = Site(Book.read("same 0"), Picture.read("ab."))

    def test_each_deed_is_taken_back(self):
        deeds = [("mend", 2, 0, 0, "c"), ("fall", 2, 0), ("fall", 0, 0), ("mend", 2, 0, 0, "d"), ("mend", 0, 0, 0, "a")]
        states = []
        for deed in deeds:
            states.append(state(self.site))
            self.assertEqual(self.site.run([deed]), 1)
        while deeds:
            self.assertEqual(self.site.undo(), deeds.pop())
            self.assertEqual(state(self.site), states.pop())
        self.assert_error(NothingToUndo(), self.site.undo)

    def test_nothing_to_undo(self):
        for _ in range(2):
            self.assert_error(NothingToUndo(), self.site.undo)
        self.assertEqual(state(self.site), ["ab.", [], 0, [0, 0, 0], []])

    def test_a_refused_deed_is_not_taken_back(self):
        self.site.fall(0, 0)
        self.assert_error(NoStone(0, 0), self.site.fall, 0, 0)
        self.assertEqual(self.site.undo(), ("fall", 0, 0))
        self.assert_error(NothingToUndo(), self.site.undo)

    def test_deeds_after_undo(self):
        self.site.run([("mend", 2, 0, 0, "c"), ("fall", 0, 0)])
        self.site.undo()
        self.site.undo()
        self.site.mend(2, 0, 0, "e")
        expected = ["abe", [(2, 0)], 1, [0, 0, 1], [("mend", 2, 0, 0, "e")]]
        self.assertEqual(state(self.site), expected)


class Running(SmaltiTest):
    def setUp(self):
        self.site = Site(Book.read("same 1 -1,0\nc all"), Picture.read("ab.."))
        self.site.mend(2, 0, 0, "b")

    def refused(self, index, deeds):
        before = state(self.site)
        self.assert_error(BadDeed(index), self.site.run, deeds)
        self.assertEqual(state(self.site), before)

    def test_number_of_deeds(self):
        self.assertEqual(self.site.run([]), 0)
        self.assertEqual(self.site.run([("fall", 2, 0)]), 1)
        self.assertEqual(self.site.run([("mend", 2, 0, 0, "b"), ("mend", 3, 0, 0, "b"), ("fall", 0, 0)]), 3)
        self.assertEqual(str(self.site.picture), ".bbb")

    def test_each_deed_is_a_deed_of_its_own(self):
        deeds = [("fall", 0, 0), ("mend", 0, 0, 1, "c"), ("fall", 0, 0)]
        self.site.run(deeds)
        self.assertEqual(self.site.log(), [("mend", 2, 0, 0, "b")] + deeds)
        self.assertEqual([self.site.undo(), self.site.undo()], [deeds[2], deeds[1]])
        self.assertEqual(state(self.site)[0], ".bb.")

    def test_a_bad_deed_at_each_index(self):
        good = [("fall", 0, 0), ("mend", 0, 0, 1, "c"), ("mend", 3, 0, 1, "c"), ("fall", 2, 0)]
        bad = [("fall", 4, 0), ("fall", 0, HUGE), ("mend", 1, 0, 1, "c"), ("mend", -1, 0, 1, "c")]
        for index in range(5):
            for deed in bad:
                self.refused(index, good[:index] + [deed] + good[index:])
        self.assertEqual(self.site.run(good), 4)

    def test_each_error_of_a_deed(self):
        for deed in [("fall", 3, 0), ("fall", -1, 0), ("mend", 3, 1, 0, "b"), ("mend", 0, 0, 0, "a"),
                     ("mend", 3, 0, 2, "b"), ("mend", 3, 0, -1, "b"), ("mend", 3, 0, 1, "d"),
                     ("mend", 3, 0, 0, ""), ("mend", 3, 0, 0, "c")]:
            self.refused(0, [deed])
            self.refused(1, [("fall", 1, 0), deed])

    def test_the_first_bad_deed(self):
        self.refused(1, [("fall", 0, 0), ("fall", 0, 0), ("fall", 9, 9), ()])

    def test_what_has_no_form_of_a_deed(self):
        for value in [(), ("fall",), ("fall", 0), ("fall", 0, 0, 0), ("mend", 3, 0), ("mend", 3, 0, 1),
                      ("mend", 3, 0, 1, "c", 0), ("fall", 0, 0, 1, "c"), ("Fall", 0, 0), ("drop", 0, 0),
                      ("", 0, 0), ("mends", 3, 0, 1, "c"), ["fall", 0, 0], ["mend", 3, 0, 1, "c"],
                      "fall 0 0", "fall", "", None, 0, 3, [], {}, ([], 0, 0), (0, 0, 0), (None, 0, 0),
                      (("fall",), 0, 0)]:
            self.refused(0, [value])
            self.refused(2, [("fall", 0, 0), ("fall", 1, 0), value, ("fall", 2, 0)])

    def test_deeds_before_the_call_stay(self):
        self.refused(1, [("fall", 2, 0), ("fall", 2, 0)])
        self.assertEqual(self.site.undo(), ("mend", 2, 0, 0, "b"))
        self.assert_error(NothingToUndo(), self.site.undo)

    def test_the_given_list_is_not_modified_and_copied(self):
        deeds = [("fall", 0, 0), ("mend", 3, 0, 1, "c")]
        self.site.run(deeds)
        self.assertEqual(deeds, [("fall", 0, 0), ("mend", 3, 0, 1, "c")])
        deeds.clear()
        self.assertEqual(len(self.site.log()), 3)

    def test_many_deeds(self):
        deeds = [("fall", 0, 0), ("mend", 0, 0, 1, "c")] * 1500
        self.assertEqual(self.site.run(deeds), 3000)
        self.assertEqual([self.site.total, self.site.mendings(0, 0), len(self.site.log())], [1501, 1500, 3001])
        self.refused(3000, deeds + [()])


class Menders(SmaltiTest):
    def setUp(self):
        self.book = Book.read("c all -1,0:b\nsame 1 -1,0")
        self.mender = Mender(self.book, 0)
        self.picture = Picture.read("b.a\n.b.")

    def test_no_rule(self):
        for number in [2, 3, -1, -2, HUGE, -HUGE]:
            self.assert_error(NoRule(number), Mender, self.book, number)
        self.assert_error(NoRule(0), Mender, Book([]), 0)

    def test_the_counts_begin_at_zero(self):
        self.assertEqual([self.mender.laid, self.mender.refused], [0, 0])

    def test_a_call_returns_the_picture_after_the_mending(self):
        after = self.mender(self.picture, 1, 0, "c")
        self.assertIsInstance(after, Picture)
        self.assertEqual(str(after), "bca\n.b.")
        self.assertEqual(str(self.picture), "b.a\n.b.")
        self.assertEqual([self.mender.laid, self.mender.refused], [1, 0])

    def test_the_rule_with_the_number(self):
        self.assertEqual(str(Mender(self.book, 1)(self.picture, 2, 1, "b")), "b.a\n.bb")
        self.assertEqual(str(Mender(self.book, 0)(self.picture, 2, 1, "c")), "b.a\n.bc")

    def test_the_errors_in_their_order(self):
        cases = [(OutOfPicture(x, y), x, y, stone) for x, y in FAR for stone in ["c", "z", ""]]
        cases += [(NoHole(0, 0), 0, 0, "c"), (NoHole(0, 0), 0, 0, "z"), (NoHole(2, 0), 2, 0, "")]
        cases += [(WrongStone(stone), 0, 1, stone) for stone in ["b", "z"] + NOT_STONES]
        cases += [(RuleClash([(-1, 1)]), 0, 1, "c")]
        for done, (error, x, y, stone) in enumerate(cases):
            self.assertEqual(self.mender.refused, done)
            self.assert_error(error, self.mender, self.picture, x, y, stone)
        self.assertEqual([self.mender.laid, self.mender.refused], [0, len(cases)])

    def test_calls_that_returned_and_calls_that_raised(self):
        counts = []
        for x, y in [(1, 0), (0, 0), (2, 1), (0, 1), (9, 9), (1, 0)]:
            try:
                self.mender(self.picture, x, y, "c")
            except ValueError:
                pass
            counts.append((self.mender.laid, self.mender.refused))
        self.assertEqual(counts, [(1, 0), (1, 1), (2, 1), (2, 2), (2, 3), (3, 3)])

    def test_menders_count_apart(self):
        other = Mender(self.book, 0)
        self.mender(self.picture, 1, 0, "c")
        self.assert_error(NoHole(0, 0), self.mender, self.picture, 0, 0, "c")
        self.assertEqual([other.laid, other.refused], [0, 0])

    def test_the_same_answers_as_a_site(self):
        for number in [0, 1]:
            for x in range(-1, 4):
                for y in range(-1, 3):
                    for stone in ["a", "b", "c", "d", "#", ""]:
                        self.compare(number, x, y, stone)

    def compare(self, number, x, y, stone):
        site, mender = Site(self.book, self.picture), Mender(self.book, number)
        try:
            site.mend(x, y, number, stone)
        except ValueError as error:
            self.assert_error(error, mender, self.picture, x, y, stone)
        else:
            self.assertEqual(mender(self.picture, x, y, stone), site.picture)


class Copies(SmaltiTest):
    def test_sites_with_the_same_book_and_picture(self):
        book, picture = Book.read("same 0"), Picture.read("a.")
        first, second = Site(book, picture), Site(book, picture)
        first.mend(1, 0, 0, "q")
        first.fall(0, 0)
        self.assertEqual(state(first)[:3], [".q", [(1, 0)], 1])
        self.assertEqual(state(second), ["a.", [], 0, [0, 0], []])
        self.assertEqual([str(picture), book.text()], ["a.", "same 0"])
        self.assert_error(NothingToUndo(), second.undo)

    def test_the_returned_list_is_new(self):
        site = Site(Book.read("same 0"), Picture.read("a."))
        site.fall(0, 0)
        log = site.log()
        log.append(("fall", 1, 0))
        log[0] = ("fall", 9, 9)
        self.assertEqual(site.log(), [("fall", 0, 0)])
        self.assertEqual(site.undo(), ("fall", 0, 0))

    def test_earlier_answers_stay(self):
        site = Site(Book.read("same 0"), Picture.read("a."))
        picture, mended, log = site.picture, site.mended, site.log()
        site.mend(1, 0, 0, "q")
        self.assertEqual([str(picture), mended.cells(), log], ["a.", [], []])


if __name__ == "__main__":
    unittest.main()
