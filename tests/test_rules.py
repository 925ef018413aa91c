"""smalti/rules.py: rules and their lines (points 2 and 10 to 18)."""

import itertools
import re
import string
import unittest

from smalti.cells import Region
from smalti.errors import InvalidRule, OutOfPicture, WrongStone
from smalti.pictures import Picture
from smalti.rules import CountRule, Rule, SameRule, read_rule
from tests.helper import HUGE, SmaltiTest

EIGHT = [(-1, -1), (0, -1), (1, -1), (-1, 0), (1, 0), (-1, 1), (0, 1), (1, 1)]
EIGHT_CONDITIONS = [(dx, dy, "b") for dx, dy in EIGHT]
NOT_STONES = ["", "#", ".", "A", "Z", "0", "*", " ", "\n", "ab", "aa", "`", "{", "\u00e9", "\u0430"]


class Examples(SmaltiTest):
    def test_written(self):
        self.assertEqual(read_rule("a 1 -1,0:cb 0,-1:a#").written(), "a 1 0,-1:#a -1,0:bc")

    def test_same_rule(self):
        rule = SameRule([(1, 0), (-1, 0), (0, 1)], 2)
        self.assertIs(rule.fits(Picture.read("aba"), 1, 0, "a"), True)
        self.assertEqual(rule.clashes(Picture.read("ab."), 1, 0, "a"), [(1, 1)])


class Kinds(SmaltiTest):
    def setUp(self):
        self.rule = Rule("a", [(1, 0, "b"), (0, 1, "c")])
        self.count = CountRule("b", [(1, 0, "b"), (0, 1, "c"), (-1, 0, "#")], 1)
        self.same = SameRule([(1, 0), (0, 1), (-1, 0), (0, -1)], 3)

    def test_kind(self):
        self.assertEqual([Rule.KIND, CountRule.KIND, SameRule.KIND], ["all", "count", "same"])
        self.assertEqual([self.rule.KIND, self.count.KIND, self.same.KIND], ["all", "count", "same"])

    def test_base_classes(self):
        self.assertEqual([CountRule.__bases__, SameRule.__bases__], [(Rule,), (CountRule,)])

    def test_stone(self):
        self.assertEqual([self.rule.stone, self.count.stone, self.same.stone], ["a", "b", ""])

    def test_need(self):
        self.assertEqual([self.count.need, self.same.need], [1, 3])

    def test_slack(self):
        self.assertEqual([self.rule.slack, self.count.slack, self.same.slack], [0, 2, 1])
        self.assertEqual([Rule("a", EIGHT_CONDITIONS).slack, SameRule(EIGHT, 0).slack], [0, 8])
        self.assertEqual(CountRule("a", EIGHT_CONDITIONS, 8).slack, 0)

    def test_slack_is_a_property(self):
        for kind in [Rule, CountRule]:
            self.assertIsInstance(vars(kind)["slack"], property)

    def test_len(self):
        self.assertEqual([len(self.rule), len(self.count), len(self.same)], [2, 3, 4])
        self.assertEqual([len(Rule("a", [])), len(CountRule("a", [], 0)), len(SameRule([], 0))], [0, 0, 0])
        self.assertEqual([len(Rule("a", EIGHT_CONDITIONS)), len(SameRule(EIGHT, 1))], [8, 8])

    def test_lays(self):
        self.assertEqual([stone for stone in string.ascii_lowercase if self.rule.lays(stone)], ["a"])
        self.assertEqual([stone for stone in string.ascii_lowercase if self.count.lays(stone)], ["b"])
        self.assertTrue(all(self.same.lays(stone) is True for stone in string.ascii_lowercase))

    def test_lays_no_text_that_is_not_one_letter(self):
        for text in NOT_STONES + ["abc", string.ascii_lowercase]:
            for rule in [self.rule, self.count, self.same]:
                self.assertIs(rule.lays(text), False)


class Constructors(SmaltiTest):
    def refused(self, part, kind, *arguments):
        self.assert_error(InvalidRule(part), kind, *arguments)

    def refused_condition(self, part, conditions):
        self.refused(part, Rule, "a", conditions)
        self.refused(part, CountRule, "a", conditions, 0)

    def refused_place(self, part, places):
        self.refused_condition(part, [(dx, dy, "b") for dx, dy in places])
        self.refused(part, SameRule, places, 0)

    def test_a_stone_that_is_not_one_letter(self):
        for stone in NOT_STONES:
            self.refused(0, Rule, stone, [])
            self.refused(0, CountRule, stone, [], 0)

    def test_each_stone(self):
        for stone in string.ascii_lowercase:
            self.assertEqual(Rule(stone, []).stone, stone)
            self.assertEqual(CountRule(stone, [], 0).stone, stone)

    def test_offsets_in_reach(self):
        reach = [(dx, dy) for dx in range(-3, 4) for dy in range(-3, 4) if (dx, dy) != (0, 0)]
        self.assertEqual(len(reach), 48)
        for dx, dy in reach:
            self.assertEqual(Rule("a", [(dx, dy, "b")]).conditions("a"), [(dx, dy, "b")])
            self.assertEqual(SameRule([(dx, dy)], 1).conditions("b"), [(dx, dy, "b")])

    def test_offsets_out_of_reach(self):
        for far in [4, -4, 5, -9, 10, 2 ** 64, -(2 ** 64), HUGE, -HUGE]:
            self.refused_place(1, [(far, 0)])
            self.refused_place(2, [(1, 1), (0, far)])
            self.refused_place(3, [(1, 1), (0, 1), (far, far)])

    def test_both_offsets_zero(self):
        self.refused_place(1, [(0, 0)])
        self.refused_place(2, [(0, 1), (0, 0)])

    def test_a_pair_given_twice(self):
        self.refused_place(2, [(1, 0), (1, 0)])
        self.refused_place(4, [(1, 0), (0, 1), (-1, 0), (0, 1)])
        self.refused(2, Rule, "a", [(1, 0, "b"), (1, 0, "c")])
        self.refused(3, CountRule, "a", [(1, 0, "b"), (0, 1, "b"), (1, 0, "c")], 1)

    def test_swapped_and_negative_pairs_differ(self):
        places = [(1, 2), (2, 1), (-1, 2), (2, -1), (-1, -2), (-2, -1), (1, -2), (-2, 1)]
        self.assertEqual(len(SameRule(places, 0)), 8)

    def test_bad_signs(self):
        for signs in ["", "aa", "aba", "##", ".", "a.", "A", "aB", "*", "a ", "1", "a\n", "\u00e9"]:
            self.refused_condition(1, [(1, 0, signs)])
            self.refused_condition(2, [(1, 1, "a"), (1, 0, signs)])

    def test_good_signs(self):
        for signs in ["a", "#", "#a", "z#b", "#" + string.ascii_lowercase]:
            expected = "".join(sorted(signs))
            self.assertEqual(Rule("a", [(1, 0, signs)]).conditions("a"), [(1, 0, expected)])

    def test_nine(self):
        self.refused_place(9, EIGHT + [(2, 2)])
        self.refused_place(9, EIGHT + [(2, 2), (2, 2), (0, 0)])
        self.refused_place(9, EIGHT + [(0, 0)])

    def test_a_fault_before_the_ninth(self):
        self.refused_place(8, EIGHT[:7] + [(0, 0), (2, 2)])
        self.refused_place(2, [(1, 0), (4, 0)] + EIGHT)

    def test_need(self):
        conditions = EIGHT_CONDITIONS
        for count in range(9):
            for need in range(count + 1):
                self.assertEqual(CountRule("a", conditions[:count], need).need, need)
                self.assertEqual(SameRule(EIGHT[:count], need).need, need)

    def test_need_out_of_range(self):
        for count in range(9):
            for need in [-1, -2, count + 1, count + 2, HUGE, -HUGE]:
                self.refused(0, CountRule, "a", EIGHT_CONDITIONS[:count], need)
                self.refused(0, SameRule, EIGHT[:count], need)

    def test_the_stone_comes_first(self):
        self.refused(0, Rule, "A", [(0, 0, "")])
        self.refused(0, CountRule, "", [(0, 0, "")], -1)

    def test_conditions_come_before_need(self):
        self.refused(2, CountRule, "a", [(1, 0, "b"), (0, 0, "b")], 3)
        self.refused(1, CountRule, "a", [(1, 0, "")], -1)
        self.refused(1, SameRule, [(0, 0)], 9)
        self.refused(9, SameRule, EIGHT + [(2, 0)], 10)

    def test_the_first_bad_condition_comes_first(self):
        self.refused_condition(1, [(1, 0, "aa"), (0, 0, "b"), (4, 0, "")])
        self.refused_condition(2, [(1, 0, "a"), (1, 0, "b"), (0, 0, "")])
        self.refused_condition(2, [(1, 0, "a"), (0, 1, "."), (1, 0, "b")])
        self.refused(2, SameRule, [(1, 0), (0, 4), (1, 0)], -1)


class Conditions(SmaltiTest):
    def test_order(self):
        given = [(1, 1, "a"), (-1, 1, "b"), (2, -3, "c"), (0, -1, "d"), (-2, -1, "e"), (3, 0, "f")]
        expected = [(2, -3, "c"), (-2, -1, "e"), (0, -1, "d"), (3, 0, "f"), (-1, 1, "b"), (1, 1, "a")]
        for shuffled in [given, given[::-1], given[3:] + given[:3]]:
            self.assertEqual(Rule("q", shuffled).conditions("q"), expected)
            self.assertEqual(CountRule("q", shuffled, 3).conditions("q"), expected)

    def test_signs_in_ascii_order(self):
        self.assertEqual(Rule("a", [(1, 0, "zb#a")]).conditions("a"), [(1, 0, "#abz")])

    def test_of_a_same_rule(self):
        rule = SameRule([(1, 0), (-1, 0), (0, -2)], 2)
        self.assertEqual(rule.conditions("a"), [(0, -2, "a"), (-1, 0, "a"), (1, 0, "a")])
        self.assertEqual(rule.conditions("z"), [(0, -2, "z"), (-1, 0, "z"), (1, 0, "z")])

    def test_without_conditions(self):
        self.assertEqual(Rule("a", []).conditions("a"), [])
        self.assertEqual(SameRule([], 0).conditions("q"), [])

    def test_wrong_stone(self):
        for rule in [Rule("a", [(1, 0, "b")]), CountRule("a", [], 0)]:
            for stone in ["b", "z"] + NOT_STONES:
                self.assert_error(WrongStone(stone), rule.conditions, stone)

    def test_wrong_stone_of_a_same_rule(self):
        for stone in NOT_STONES:
            self.assert_error(WrongStone(stone), SameRule([(1, 0)], 1).conditions, stone)

    def test_kinds_of_values(self):
        for rule in [Rule("a", [(1, 0, "b")]), SameRule([(1, 0)], 1)]:
            found = rule.conditions("a")
            self.assertEqual([type(found), type(found[0])], [list, tuple])


class Clashes(SmaltiTest):
    def setUp(self):
        self.picture = Picture.read("abc\nd.f\n.hi")
        self.cross = Rule("e", [(0, -1, "x"), (-1, 0, "x"), (1, 0, "x"), (0, 1, "x")])

    def test_stones_that_are_not_among_the_signs(self):
        self.assertEqual(self.cross.clashes(self.picture, 1, 1, "e"), [(1, 0), (0, 1), (2, 1), (1, 2)])

    def test_signs_that_are_allowed(self):
        rule = Rule("e", [(0, -1, "#ab"), (-1, 0, "d"), (1, 0, "g"), (0, 1, "ghi")])
        self.assertEqual(rule.clashes(self.picture, 1, 1, "e"), [(2, 1)])

    def test_a_hole_never_clashes(self):
        self.assertEqual(self.cross.clashes(self.picture, 0, 1, "e"), [(0, 0), (-1, 1)])

    def test_the_edge_clashes(self):
        self.assertEqual(self.cross.clashes(self.picture, 0, 0, "e"), [(0, -1), (-1, 0), (1, 0), (0, 1)])
        rule = Rule("e", [(0, -1, "#"), (-1, 0, "a#"), (3, 0, "c"), (1, 0, "#")])
        self.assertEqual(rule.clashes(self.picture, 0, 0, "e"), [(1, 0), (3, 0)])

    def test_reading_order(self):
        given = [(1, 1, "x"), (-1, 1, "x"), (1, -1, "x"), (-1, -1, "x"), (0, 1, "x"), (0, -1, "x")]
        expected = [(0, 0), (1, 0), (2, 0), (1, 2), (2, 2)]
        self.assertEqual(Rule("e", given).clashes(self.picture, 1, 1, "e"), expected)
        self.assertEqual(CountRule("e", given, 2).clashes(self.picture, 1, 1, "e"), expected)
        places = [(dx, dy) for dx, dy, _ in given]
        self.assertEqual(SameRule(places, 2).clashes(self.picture, 1, 1, "e"), expected)

    def test_the_sign_at_the_cell_does_not_matter(self):
        rule = Rule("e", [(1, 0, "c")])
        for sign in ".aez":
            picture = Picture(["a" + sign + "c"])
            self.assertEqual(rule.clashes(picture, 1, 0, "e"), [])
            self.assertIs(rule.fits(picture, 1, 0, "e"), True)

    def test_without_conditions(self):
        for rule in [Rule("a", []), CountRule("a", [], 0), SameRule([], 0)]:
            self.assertEqual(rule.clashes(self.picture, 2, 2, "a"), [])
            self.assertIs(rule.fits(self.picture, 2, 2, "a"), True)

    def test_positions_are_tuples_in_a_list(self):
        found = self.cross.clashes(self.picture, 1, 1, "e")
        self.assertEqual([type(found), type(found[0])], [list, tuple])

    def test_out_of_picture(self):
        for x, y in [(-1, 0), (0, -1), (3, 0), (0, 3), (HUGE, 0), (0, -HUGE), (-HUGE, HUGE)]:
            for rule in [self.cross, CountRule("e", [], 0), SameRule([], 0)]:
                for stone in ["e", "b", "", "#"]:
                    self.assert_error(OutOfPicture(x, y), rule.clashes, self.picture, x, y, stone)
                    self.assert_error(OutOfPicture(x, y), rule.fits, self.picture, x, y, stone)

    def test_wrong_stone(self):
        for stone in ["b"] + NOT_STONES:
            self.assert_error(WrongStone(stone), self.cross.clashes, self.picture, 1, 1, stone)
        for stone in NOT_STONES:
            self.assert_error(WrongStone(stone), SameRule([], 0).clashes, self.picture, 1, 1, stone)

    def test_fits_with_a_stone_that_is_not_laid(self):
        for stone in ["b"] + NOT_STONES:
            self.assertIs(Rule("e", []).fits(self.picture, 1, 1, stone), False)
            self.assertIs(CountRule("e", [], 0).fits(self.picture, 1, 1, stone), False)
        for stone in NOT_STONES:
            self.assertIs(SameRule([], 0).fits(self.picture, 1, 1, stone), False)

    def test_fits_with_each_slack(self):
        conditions = [(0, -1, "b"), (-1, 0, "x"), (1, 0, "f"), (0, 1, "x")]
        fitting = [need for need in range(5) if CountRule("e", conditions, need).fits(self.picture, 1, 1, "e")]
        self.assertEqual(fitting, [0, 1, 2])
        self.assertIs(Rule("e", conditions).fits(self.picture, 1, 1, "e"), False)
        self.assertIs(Rule("e", conditions[::2]).fits(self.picture, 1, 1, "e"), True)

    def test_same_rule_asks_for_the_stone_itself(self):
        picture = Picture.read("aab\n...")
        rule = SameRule([(-1, 0), (1, 0)], 1)
        self.assertEqual(rule.clashes(picture, 1, 0, "a"), [(2, 0)])
        self.assertEqual(rule.clashes(picture, 1, 0, "b"), [(0, 0)])
        self.assertEqual(rule.clashes(picture, 1, 0, "c"), [(0, 0), (2, 0)])
        self.assertEqual([rule.fits(picture, 1, 0, stone) for stone in "abc"], [True, True, False])

    def test_the_edge_clashes_in_a_same_rule(self):
        rule = SameRule([(-1, 0), (1, 0)], 2)
        self.assertEqual(rule.clashes(Picture.read("a."), 0, 0, "a"), [(-1, 0)])


class Loose(SmaltiTest):
    def setUp(self):
        self.picture = Picture.read("abc")
        self.rule = Rule("b", [(-1, 0, "x"), (1, 0, "x"), (0, -1, "x")])

    def clashes(self, loose):
        return self.rule.clashes(self.picture, 1, 0, "b", loose=loose)

    def test_none_and_no_cells(self):
        everywhere = [(1, -1), (0, 0), (2, 0)]
        self.assertEqual([self.clashes(None), self.clashes(Region([]))], [everywhere, everywhere])

    def test_loose_cells_count_as_holes(self):
        self.assertEqual(self.clashes(Region.of((0, 0))), [(1, -1), (2, 0)])
        self.assertEqual(self.clashes(Region.of((2, 0), (0, 0))), [(1, -1)])

    def test_other_loose_cells_have_no_effect(self):
        self.assertEqual(self.clashes(Region.of((1, 0))), [(1, -1), (0, 0), (2, 0)])

    def test_loose_positions_outside_stay_the_edge(self):
        self.assertEqual(self.clashes(Region.of((1, -1), (7, 7), (-HUGE, 0))), [(1, -1), (0, 0), (2, 0)])
        rule = Rule("b", [(0, -1, "#")])
        self.assertEqual(rule.clashes(self.picture, 1, 0, "b", loose=Region.of((1, -1))), [])

    def test_fits(self):
        rule = CountRule("b", [(-1, 0, "x"), (1, 0, "x"), (0, -1, "x")], 2)
        wanted = {None: False, (0, 0): False, (1, -1): False}
        for cell, expected in wanted.items():
            loose = None if cell is None else Region.of(cell)
            self.assertIs(rule.fits(self.picture, 1, 0, "b", loose=loose), expected)
        loose = Region.of((0, 0), (2, 0))
        self.assertIs(rule.fits(self.picture, 1, 0, "b", loose=loose), True)
        self.assertIs(self.rule.fits(self.picture, 1, 0, "b", loose=loose), False)

    def test_in_a_same_rule(self):
        rule = SameRule([(-1, 0), (1, 0)], 2)
        self.assertIs(rule.fits(Picture.read("aab"), 1, 0, "a"), False)
        self.assertIs(rule.fits(Picture.read("aab"), 1, 0, "a", loose=Region.of((2, 0))), True)

    def test_errors_with_loose_cells(self):
        loose = Region.of((3, 0))
        for ask in [self.rule.clashes, self.rule.fits]:
            self.assert_error(OutOfPicture(3, 0), ask, self.picture, 3, 0, "q", loose=loose)
        self.assert_error(WrongStone("q"), self.rule.clashes, self.picture, 0, 0, "q", loose=loose)

    def test_loose_is_passed_by_keyword(self):
        for ask in [self.rule.clashes, self.rule.fits]:
            with self.assertRaises(TypeError):
                ask(self.picture, 1, 0, "b", Region([]))


class Written(SmaltiTest):
    def test_each_kind(self):
        conditions = [(1, 0, "cb"), (-3, -2, "#a"), (0, 3, "z")]
        self.assertEqual(Rule("q", conditions).written(), "q all -3,-2:#a 1,0:bc 0,3:z")
        self.assertEqual(CountRule("q", conditions, 0).written(), "q 0 -3,-2:#a 1,0:bc 0,3:z")
        self.assertEqual(SameRule([(1, 0), (-3, -2), (0, 3)], 3).written(), "same 3 -3,-2 1,0 0,3")

    def test_without_conditions(self):
        written = [Rule("a", []).written(), CountRule("z", [], 0).written(), SameRule([], 0).written()]
        self.assertEqual(written, ["a all", "z 0", "same 0"])

    def test_eight_conditions(self):
        line = "a 8 -1,-1:b 0,-1:b 1,-1:b -1,0:b 1,0:b -1,1:b 0,1:b 1,1:b"
        self.assertEqual(CountRule("a", EIGHT_CONDITIONS[::-1], 8).written(), line)


class Reading(SmaltiTest):
    def refused(self, part, line):
        self.assert_error(InvalidRule(part), read_rule, line)

    def test_each_kind(self):
        lines = ["a all", "a all 1,0:b", "q 0", "q 2 0,-3:#z -3,0:a 3,3:bc", "same 0", "same 1 0,-1 -1,0"]
        kinds = [Rule, Rule, CountRule, CountRule, SameRule, SameRule]
        for line, kind in zip(lines, kinds):
            self.assertIs(type(read_rule(line)), kind)
            self.assertEqual(read_rule(line).written(), line)

    def test_any_order(self):
        self.assertEqual(read_rule("a all 0,1:cab -1,0:z#").written(), "a all -1,0:#z 0,1:abc")
        self.assertEqual(read_rule("same 1 0,1 -1,0 0,-2").written(), "same 1 0,-2 -1,0 0,1")

    def test_a_bad_first_word(self):
        for word in ["", "A", "#", ".", "ab", "Same", "sam", "samee", "1", "all", "a\n", "\u00e9"]:
            for rest in [" all", " 0", " 0 1,0:a", " all x", ""]:
                self.refused(0, word + rest)

    def test_a_bad_second_word(self):
        for word in ["", "need", "All", "al", "alll", "+1", "-1", "00", "01", "10", "1:", "#", "all\n", "\u0661", "\u00b2"]:
            self.refused(0, "a " + word)
            self.refused(0, "a " + word + " x")
            self.refused(0, "same " + word)
            self.refused(0, "same " + word + " 1,0")

    def test_a_same_rule_has_no_all(self):
        self.refused(0, "same all")
        self.refused(0, "same all 1,0")

    def test_a_missing_second_word(self):
        for line in ["", "a", "same", "b", "all", "1"]:
            self.refused(0, line)

    def test_a_space_at_the_end_or_the_begin(self):
        self.refused(0, "a ")
        self.refused(0, " a all")
        self.refused(1, "a all ")
        self.refused(1, "a 0 ")
        self.refused(1, "same 0 ")
        self.refused(2, "a all 1,0:b ")
        self.refused(2, "same 1 1,0 ")

    def test_two_spaces_together(self):
        self.refused(0, "a  all 1,0:b")
        self.refused(1, "a all  1,0:b")
        self.refused(2, "a 1 1,0:b  0,1:b")
        self.refused(2, "same 1 1,0  0,1")

    def test_malformed_numbers(self):
        for number in ["", "+1", "-", "--1", "-0", "00", "01", "-01", "10", "-10", "1.", "x", "1-", "\u0661", "\u00b2", " "]:
            for word in [f"{number},1", f"1,{number}"]:
                self.refused(1, f"a all {word}:b")
                self.refused(2, f"a 0 1,1:b {word}:b")
                self.refused(1, f"same 0 {word}")

    def test_malformed_places(self):
        for word in ["1", "1,", ",1", ",", "1,1,1", "1;1", "(1,1)", "1,,1", "1, 1"]:
            self.refused(1, f"a all {word}:b")
            self.refused(1, f"same 0 {word}")

    def test_a_condition_without_signs(self):
        for word in ["1,0", "1,0:", "1,0;b", ":b", ":", "1:0,b"]:
            self.refused(1, f"a all {word}")
            self.refused(2, f"a 0 0,1:b {word}")

    def test_a_place_with_a_colon(self):
        for word in ["1,0:", "1,0:b", "1,0:#", "1:0"]:
            self.refused(1, f"same 0 {word}")
            self.refused(2, f"same 0 0,1 {word}")

    def test_faults_that_the_constructor_finds(self):
        self.refused(1, "a all 4,0:b")
        self.refused(2, "a all 3,0:b 0,-9:b")
        self.refused(1, "a all 0,0:b")
        self.refused(2, "a all 1,0:b 1,0:c")
        self.refused(1, "a all 1,0:bb")
        self.refused(1, "a all 1,0:.")
        self.refused(0, "a 2 1,0:b")
        self.refused(0, "a 1")
        self.refused(0, "same 9 1,0")
        self.refused(2, "same 0 1,0 -4,0")
        self.refused(1, "same 0 0,0")
        self.refused(2, "same 0 1,0 1,0")

    def test_more_colons_and_commas_are_bad_signs(self):
        for signs in ["b:", ":", "::", ",", "b,c", "1,0:b"]:
            self.refused(1, f"a all 1,0:{signs}")
            self.refused(1, f"a all 0,0:b 1,0:{signs}")

    def test_malformed_words_come_before_other_faults(self):
        self.refused(3, "a 9 0,0:b 4,0:bb 1:b 1,0")
        self.refused(2, "same 9 0,0 x")
        self.refused(2, "a all 1,0:aa -0,1:b")

    def test_the_first_word_comes_before_malformed_words(self):
        self.refused(0, "A all x")
        self.refused(0, "a -1 x")

    def test_nine_conditions(self):
        words = [f"{dx},{dy}" for dx, dy in EIGHT + [(2, 2)]]
        conditions = [f"{word}:b" for word in words]
        self.refused(9, "a all " + " ".join(conditions))
        self.refused(9, "a 9 " + " ".join(conditions))
        self.refused(9, "same 0 " + " ".join(words))
        self.refused(10, "a all " + " ".join(conditions + ["x"]))
        self.assertEqual(len(read_rule("a all " + " ".join(conditions[:8]))), 8)

    def test_a_newline_is_no_separator(self):
        self.refused(1, "a all 1,0:b\n")
        self.refused(1, "same 1 1,0\n")
        self.refused(1, "a all 1,0:b\n1,1:c")

    def test_all_short_words(self):
        place = re.compile(r"(0|-?[1-9]),(0|-?[1-9])")
        for size in range(6):
            for signs in itertools.product("-0,3:", repeat=size):
                word = "".join(signs)
                condition = re.fullmatch(place.pattern + ":.+", word)
                self.check_word(word, bool(condition), "a all {} x")
                self.check_word(word, bool(place.fullmatch(word)), "same 0 {} x")

    def check_word(self, word, good, line):
        # The second word is malformed, too, so that a good first word is told from a bad one.
        self.refused(2 if good else 1, line.format(word))


class Copies(SmaltiTest):
    def test_given_lists_are_copied(self):
        conditions, places = [(1, 0, "cb"), (0, -1, "a")], [(1, 0), (0, -1)]
        rules = [Rule("a", conditions), CountRule("a", conditions, 1), SameRule(places, 1)]
        before = [rule.written() for rule in rules]
        conditions.append((0, 0, "."))
        conditions[0] = (2, 2, "q")
        places.clear()
        self.assertEqual([rule.written() for rule in rules], before)
        self.assertEqual([len(rule) for rule in rules], [2, 2, 2])

    def test_given_lists_are_not_modified(self):
        conditions, places = [(1, 0, "cb"), (0, -1, "a")], [(1, 0), (0, -1)]
        for rule in [Rule("a", conditions), CountRule("a", conditions, 1), SameRule(places, 1)]:
            rule.clashes(Picture.read("ab"), 0, 0, "a")
        self.assertEqual(conditions, [(1, 0, "cb"), (0, -1, "a")])
        self.assertEqual(places, [(1, 0), (0, -1)])

    def test_returned_lists_are_new(self):
        picture = Picture.read("ab")
        for rule in [Rule("a", [(1, 0, "c")]), CountRule("a", [(1, 0, "c")], 1), SameRule([(1, 0)], 1)]:
            conditions, clashes = rule.conditions("a"), rule.clashes(picture, 0, 0, "a")
            before = list(conditions)
            conditions.clear()
            clashes.append((9, 9))
            self.assertEqual(rule.conditions("a"), before)
            self.assertEqual(rule.clashes(picture, 0, 0, "a"), [(1, 0)])
            self.assertEqual(len(rule), 1)


if __name__ == "__main__":
    unittest.main()
