"""Rules (points 6 and 7)."""

import unittest

from risensigns.books import Rule
from risensigns.errors import BadRule, BadSign, Beyond, Mismatch
from risensigns.rows import Row
from tests.helping import Case


class Made(Case):
    def test_sides(self):
        rule = Rule("ab", "bba")
        self.assertEqual((rule.left, rule.right, str(rule)), ("ab", "bba", "ab:bba"))

    def test_empty_right_side(self):
        for rule in (Rule("a"), Rule("a", ""), Rule(left="a", right="")):
            self.assertEqual((rule.left, rule.right, str(rule)), ("a", "", "a:"))

    def test_numbers_of_signs(self):
        for left in range(7):
            for right in range(7):
                if 1 <= left <= 4 and right <= 4:
                    self.assertEqual(str(Rule("a" * left, "z" * right)), "a" * left + ":" + "z" * right)
                else:
                    self.fault(BadRule)(Rule, "a" * left, "z" * right)
        self.fault(BadRule)(Rule, "")

    def test_first_wrong_sign(self):
        self.fault(BadSign, 1)(Rule, "aB:", "")
        self.fault(BadSign, 0)(Rule, " ")
        self.fault(BadSign, 2)(Rule, "a", "bc\n")
        self.fault(BadSign, 0)(Rule, "a", ":")

    def test_order_of_errors(self):
        self.fault(BadSign, 3)(Rule, "abcD", "A")
        self.fault(BadSign, 5)(Rule, "aaaaa ", "A")
        self.fault(BadSign, 0)(Rule, "", "A")
        self.fault(BadSign, 0)(Rule, "aaaaa", "Abbbb")
        self.fault(BadSign, 4)(Rule, "a", "bbbbB")


class Performed(Case):
    def test_first_index_is_left_out(self):
        rule = Rule("ab", "c")
        row = Row("abab", [1, 2, 3, 4])
        self.same_rows(rule(row), "cab", [2, 3, 4])
        self.same_rows(rule(row, 0), "cab", [2, 3, 4])

    def test_index_by_place_and_by_name(self):
        rule = Rule("ab", "c")
        row = Row("abab", [1, 2, 3, 5])
        self.same_rows(rule(row, 2), "abc", [1, 2, 4])
        self.same_rows(rule(row, at=2), "abc", [1, 2, 4])
        self.same_rows(rule(row=row, at=2), "abc", [1, 2, 4])

    def test_height_is_one_above_the_least(self):
        rule = Rule("abc", "xy")
        for heights, height in [([0, 0, 0], 1), ([3, 1, 2], 2), ([1, 2, 3], 2), ([2, 3, 1], 2), ([9, 9, 4], 5)]:
            row = Row("zabcz", [0, *heights, 9])
            self.same_rows(rule(row, 1), "zxyz", [0, height, height, 9])

    def test_sizes_of_the_right_side(self):
        row = Row("xaby", [7, 1, 2, 8])
        for right in ("", "p", "pq", "pqr", "pqrs"):
            new = [2] * len(right)
            self.same_rows(Rule("ab", right)(row, 1), "x" + right + "y", [7, *new, 8])

    def test_longest_left_side(self):
        self.same_rows(Rule("abcd", "e")(Row("abcd", [4, 5, 6, 7])), "e", [5])
        self.same_rows(Rule("abcd")(Row("abcd", [4, 5, 6, 7])), "", [])

    def test_result_is_new(self):
        row = Row("abz", [1, 2, 3])
        taken = Rule("ab", "c")(row)
        self.same_rows(row, "abz", [1, 2, 3])
        row[2] = ("y", 9)
        self.same_rows(taken, "cz", [2, 3])
        taken += Row("q")
        taken[0] = ("p", 8)
        self.same_rows(row, "aby", [1, 2, 9])

    def test_mismatch(self):
        rule = Rule("ab", "c")
        row = Row("abab")
        for at in (1, 3, 4, 5, 100, -1, -2, -4, -5):
            self.fault(Mismatch, at)(rule, row, at)
        self.fault(Mismatch, 0)(rule, Row())
        self.fault(Mismatch, 0)(rule, Row("ba"))
        self.fault(Mismatch, 0)(rule, Row("a"))
        self.fault(Mismatch, -1)(Rule("b"), Row("ab"), -1)
        self.fault(Mismatch, 2)(Rule("b"), Row("ab"), 2)
        self.same_rows(row, "abab", [0, 0, 0, 0])

    def test_beyond(self):
        for right in ("b", "bb", "bbbb"):
            self.fault(Beyond, 10)(Rule("a", right), Row("a", [9]))
        row = Row("xab", [0, 9, 9])
        self.fault(Beyond, 10)(Rule("ab", "a"), row, 1)
        self.same_rows(row, "xab", [0, 9, 9])

    def test_greatest_height_that_can_be_written(self):
        self.same_rows(Rule("ab", "a")(Row("ab", [9, 8])), "a", [9])

    def test_height_9_with_an_empty_right_side(self):
        self.same_rows(Rule("ab")(Row("xaby", [0, 9, 9, 9]), 1), "xy", [0, 9])

    def test_mismatch_before_beyond(self):
        self.fault(Mismatch, 1)(Rule("ab", "a"), Row("ab", [9, 9]), 1)
        self.fault(Mismatch, 0)(Rule("a", "a"), Row("b", [9]))


if __name__ == "__main__":
    unittest.main()
