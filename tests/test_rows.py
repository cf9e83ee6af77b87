"""Rows (points 2 to 5)."""

import itertools
import string
import unittest

from risensigns.errors import BadHeight, BadSign, NoPlace, Uneven
from risensigns.rows import Row
from tests.helping import Case

PRINTED = [chr(code) for code in range(32, 127)] + ["\n", "\t"]


def short_rows():
    """All rows of at most two pairs over two signs and three heights."""
    pairs = list(itertools.product("ab", (0, 1, 9)))
    for size in range(3):
        for chosen in itertools.product(pairs, repeat=size):
            yield Row("".join(sign for sign, _ in chosen), [height for _, height in chosen])


class Made(Case):
    def test_empty(self):
        self.same_rows(Row(), "", [])
        self.same_rows(Row(""), "", [])
        self.same_rows(Row("", []), "", [])
        self.same_rows(Row("", None), "", [])

    def test_text_alone_has_heights_0(self):
        self.same_rows(Row("abz"), "abz", [0, 0, 0])
        self.same_rows(Row("abz", None), "abz", [0, 0, 0])
        self.same_rows(Row(text="ab", heights=None), "ab", [0, 0])

    def test_heights_in_order(self):
        self.same_rows(Row("abc", [0, 9, 4]), "abc", [0, 9, 4])
        self.same_rows(Row(text="abc", heights=[9, 0, 1]), "abc", [9, 0, 1])

    def test_all_signs_and_heights(self):
        self.assertEqual(Row(string.ascii_lowercase).signs, string.ascii_lowercase)
        self.assertEqual(Row("a" * 10, list(range(10))).heights, list(range(10)))

    def test_every_other_character_is_no_sign(self):
        for character in PRINTED:
            if character in string.ascii_lowercase:
                self.assertEqual(Row(character).signs, character)
                self.assertEqual(Row(character.encode()).signs, character)
            else:
                self.fault(BadSign, 0)(Row, character)
                self.fault(BadSign, 0)(Row, character.encode())

    def test_first_wrong_sign(self):
        self.fault(BadSign, 2)(Row, "abA:")
        self.fault(BadSign, 0)(Row, " ab")
        self.fault(BadSign, 2)(Row, "ab\n")
        self.fault(BadSign, 1)(Row, "a0b1")

    def test_bytes(self):
        self.same_rows(Row(b"abc"), "abc", [0, 0, 0])
        self.same_rows(Row(b"abc", [1, 2, 3]), "abc", [1, 2, 3])
        self.same_rows(Row(b""), "", [])
        self.assertEqual(Row(b"ab"), Row("ab"))
        self.assertIs(type(Row(b"ab").signs), str)
        self.fault(BadSign, 1)(Row, b"a b")
        self.fault(BadSign, 3)(Row, b"abc\n", [0])
        self.fault(Uneven)(Row, b"ab", [0])

    def test_uneven(self):
        for text, heights in [("ab", [0]), ("ab", [0, 0, 0]), ("", [0]), ("a", []), ("ab", [])]:
            self.fault(Uneven)(Row, text, heights)

    def test_first_wrong_height(self):
        self.fault(BadHeight, 10)(Row, "abc", [9, 10, -1])
        self.fault(BadHeight, -1)(Row, "abc", [0, -1, 10])
        self.fault(BadHeight, 11)(Row, "a", [11])
        self.fault(BadHeight, -7)(Row, "ab", [-7, -1])

    def test_order_of_errors(self):
        self.fault(BadSign, 1)(Row, "aB", [99])
        self.fault(BadSign, 1)(Row, "aB", [99, 0])
        self.fault(Uneven)(Row, "ab", [99])
        self.fault(Uneven)(Row, "", [-1])

    def test_passed_list_is_neither_changed_nor_kept(self):
        heights = [1, 2]
        row = Row("ab", heights)
        self.assertEqual(heights, [1, 2])
        heights[0] = 5
        heights.append(3)
        self.same_rows(row, "ab", [1, 2])
        row[0] = ("c", 7)
        row += Row("d")
        self.assertEqual(heights, [5, 2, 3])

    def test_returned_list_is_new(self):
        row = Row("ab", [1, 2])
        row.heights.append(3)
        row.heights[0] = 9
        self.same_rows(row, "ab", [1, 2])
        self.assertIs(type(row.heights), list)


class Read(Case):
    def test_length(self):
        self.assertEqual(len(Row()), 0)
        self.assertEqual(len(Row("abc", [3, 2, 1])), 3)

    def test_iteration(self):
        self.assertEqual(list(Row("aba", [3, 0, 1])), [("a", 3), ("b", 0), ("a", 1)])
        self.assertEqual(list(Row()), [])
        for pair in Row("ab"):
            self.assertIs(type(pair), tuple)

    def test_equal(self):
        for row in (Row(), Row("a"), Row("ab", [1, 2])):
            copied = Row(row.signs, row.heights)
            self.assertIs(row == copied, True)
            self.assertIs(row != copied, False)

    def test_unequal_rows(self):
        row = Row("ab", [1, 2])
        for other in (Row("ab", [1, 1]), Row("ac", [1, 2]), Row("ab"), Row("a", [1]), Row("abb", [1, 2, 2]), Row()):
            self.assertIs(row == other, False)
            self.assertIs(row != other, True)

    def test_unequal_to_other_things(self):
        for other in ("ab", b"ab", 0, None, [("a", 0), ("b", 0)], (), [], {}):
            for row in (Row("ab"), Row()):
                self.assertIs(row == other, False)
                self.assertIs(row != other, True)
                self.assertIs(other == row, False)

    def test_less_by_sign_then_height(self):
        self.assertIs(Row("a", [9]) < Row("b", [0]), True)
        self.assertIs(Row("b", [0]) < Row("a", [9]), False)
        self.assertIs(Row("a", [0]) < Row("a", [1]), True)
        self.assertIs(Row("a", [1]) < Row("a", [0]), False)
        # The first place decides before the signs of the second.
        self.assertIs(Row("ab", [0, 0]) < Row("aa", [1, 0]), True)
        self.assertIs(Row("aa", [1, 0]) < Row("ab", [0, 0]), False)
        self.assertIs(Row("ac", [0, 0]) < Row("ab", [1, 0]), True)

    def test_less_if_the_beginning(self):
        self.assertIs(Row() < Row("a"), True)
        self.assertIs(Row("a") < Row(), False)
        self.assertIs(Row("a", [1]) < Row("aa", [1, 0]), True)
        self.assertIs(Row("aa", [1, 0]) < Row("a", [1]), False)
        self.assertIs(Row("b") < Row("aa"), False)
        self.assertIs(Row() < Row(), False)

    def test_less_like_lists_of_pairs(self):
        rows = list(short_rows())
        for row, other in itertools.product(rows, rows):
            self.assertIs(row < other, list(row) < list(other))
            self.assertIs(row == other, list(row) == list(other))

    def test_greatest_height(self):
        self.assertEqual(abs(Row()), 0)
        self.assertEqual(abs(Row("ab")), 0)
        self.assertEqual(abs(Row("abc", [1, 7, 3])), 7)
        self.assertEqual(abs(Row("ab", [9, 0])), 9)

    def test_pair_at_an_index(self):
        row = Row("abc", [3, 0, 9])
        self.assertEqual([row[0], row[1], row[2]], [("a", 3), ("b", 0), ("c", 9)])
        self.assertIs(type(row[0]), tuple)

    def test_no_pair_at_an_index(self):
        for row, at in [(Row("abc"), -1), (Row("abc"), 3), (Row("abc"), 4), (Row("abc"), -3), (Row(), 0), (Row(), -1)]:
            self.fault(NoPlace, at)(lambda row=row, at=at: row[at])

    def test_slices(self):
        row = Row("abcd", [4, 3, 2, 1])
        for i in range(5):
            for j in range(i, 5):
                self.same_rows(row[i:j], "abcd"[i:j], [4, 3, 2, 1][i:j])
                self.assertIs(type(row[i:j]), Row)
        self.same_rows(Row()[0:0], "", [])

    def test_slice_is_new(self):
        row = Row("ab", [1, 2])
        part = row[0:2]
        part[0] = ("z", 9)
        self.same_rows(row, "ab", [1, 2])
        row[1] = ("y", 8)
        self.same_rows(part, "zb", [9, 2])

    def test_shown(self):
        self.assertEqual(Row("abb", [0, 2, 1]).shown(), " a b b\n 0 2 1")
        self.assertEqual(Row("z", [9]).shown(), " z\n 9")
        self.assertEqual(Row().shown(), "\n")

    def test_shown_after_changes(self):
        row = Row("ab")
        self.assertEqual(row.shown(), " a b\n 0 0")
        row[1] = ("c", 5)
        self.assertEqual(row.shown(), " a c\n 0 5")
        row += Row("d", [1])
        self.assertEqual(row.shown(), " a c d\n 0 5 1")
        row[0:2] = Row()
        self.assertEqual(row.shown(), " d\n 1")
        self.assertEqual((row.signs, row.heights, len(row), abs(row)), ("d", [1], 1, 1))


class Joined(Case):
    def test_sum(self):
        self.same_rows(Row("ab", [1, 2]) + Row("c", [3]), "abc", [1, 2, 3])
        self.same_rows(Row() + Row("a", [4]), "a", [4])
        self.same_rows(Row("a", [4]) + Row(), "a", [4])
        self.same_rows(Row() + Row(), "", [])

    def test_sum_with_itself(self):
        row = Row("ab", [1, 2])
        self.same_rows(row + row, "abab", [1, 2, 1, 2])

    def test_sum_is_new(self):
        for left, right in [(Row("a"), Row("b")), (Row(), Row("b")), (Row("a"), Row())]:
            before = (list(left), list(right))
            joined = left + right
            joined += Row("c")
            joined[0] = ("z", 9)
            self.assertEqual((list(left), list(right)), before)
            kept = list(joined)
            left += Row("x")
            right += Row("y")
            self.assertEqual(list(joined), kept)

    def test_times(self):
        self.same_rows(3 * Row("ab", [1, 2]), "ababab", [1, 2, 1, 2, 1, 2])
        self.same_rows(0 * Row("ab"), "", [])
        self.same_rows(5 * Row(), "", [])

    def test_times_is_new(self):
        row = Row("ab", [1, 2])
        once = 1 * row
        self.assertEqual(once, row)
        once[0] = ("z", 9)
        once += Row("c")
        self.same_rows(row, "ab", [1, 2])

    def test_raised(self):
        self.same_rows(Row("ab", [1, 7]) << 2, "ab", [3, 9])
        self.same_rows(Row("ab") << 9, "ab", [9, 9])
        self.same_rows(Row("ab", [9, 0]) << 0, "ab", [9, 0])

    def test_raised_too_high(self):
        row = Row("abc", [1, 7, 3])
        self.fault(BadHeight, 10)(lambda: row << 3)
        self.fault(BadHeight, 16)(lambda: row << 9)
        self.fault(BadHeight, 27)(lambda: row << 20)
        self.fault(BadHeight, 10)(lambda: Row("a") << 10)
        self.same_rows(row, "abc", [1, 7, 3])

    def test_empty_row_raised(self):
        for by in (0, 1, 9, 10, 100):
            self.same_rows(Row() << by, "", [])

    def test_raised_is_new(self):
        row = Row("ab", [1, 2])
        raised = row << 0
        raised[0] = ("z", 9)
        raised += Row("c")
        self.same_rows(row, "ab", [1, 2])

    def test_row_in_row(self):
        row = Row("abab", [0, 1, 0, 2])
        for part in (Row("ab", [0, 1]), Row("ab", [0, 2]), Row("ba", [1, 0]), Row("b", [2]), Row("a"), Row(), row):
            self.assertIs(part in row, True)
        for part in (Row("ab"), Row("aa"), Row("b", [0]), Row("ba", [2, 0]), Row("ababa", [0, 1, 0, 2, 0])):
            self.assertIs(part in row, False)
        self.assertIs(Row() in Row(), True)
        self.assertIs(Row("a") in Row(), False)

    def test_pairs_stand_side_by_side(self):
        self.assertIs(Row("ac") in Row("abc"), False)
        self.assertIs(Row("cb") in Row("abc"), False)
        self.assertIs(Row("aab") in Row("aaab"), True)

    def test_string_in_row(self):
        row = Row("abc", [0, 9, 3])
        for part in ("", "a", "b", "c", "ab", "bc", "abc"):
            self.assertIs(part in row, True)
        for part in ("ac", "ba", "abcd", "d", "aa"):
            self.assertIs(part in row, False)
        self.assertIs("" in Row(), True)
        self.assertIs("a" in Row(), False)

    def test_no_other_string_is_in_a_row(self):
        for part in (" ", "a b", "A", "a\n", "0", "a:b", "1", "(", ","):
            self.assertIs(part in Row("abab", [0, 1, 2, 3]), False)
            self.assertIs(part in Row(), False)


class Changed(Case):
    def test_pair_is_replaced(self):
        row = Row("abc", [1, 2, 3])
        row[1] = ("z", 9)
        self.same_rows(row, "azc", [1, 9, 3])
        row[0] = ("b", 0)
        row[2] = ("a", 4)
        self.same_rows(row, "bza", [0, 9, 4])
        self.assertEqual(row[1], ("z", 9))

    def test_no_place_for_a_pair(self):
        row = Row("abc", [1, 2, 3])
        for at in (-1, 3, 4, -3):
            self.fault(NoPlace, at)(row.__setitem__, at, ("a", 0))
        self.fault(NoPlace, 0)(Row().__setitem__, 0, ("a", 0))
        self.same_rows(row, "abc", [1, 2, 3])

    def test_wrong_pairs(self):
        row = Row("abc", [1, 2, 3])
        for sign in ("", "ab", "A", " ", "\n", ":", "a ", "abc"):
            self.fault(BadSign, 0)(row.__setitem__, 2, (sign, 0))
        for height in (-1, 10, 11):
            self.fault(BadHeight, height)(row.__setitem__, 1, ("z", height))
        self.same_rows(row, "abc", [1, 2, 3])

    def test_order_of_errors(self):
        row = Row("ab")
        self.fault(NoPlace, 2)(row.__setitem__, 2, ("A", 10))
        self.fault(NoPlace, -1)(row.__setitem__, -1, ("a", 10))
        self.fault(BadSign, 0)(row.__setitem__, 1, ("aB", 10))
        self.same_rows(row, "ab", [0, 0])

    def test_slice_grows_and_shrinks(self):
        for i in range(4):
            for j in range(i, 4):
                for size in range(4):
                    row = Row("abc", [1, 2, 3])
                    pairs = list(row)
                    other = Row("xyz", [7, 8, 9])[0:size]
                    row[i:j] = other
                    pairs[i:j] = list(other)
                    self.assertEqual(list(row), pairs)
                    self.assertEqual(other, Row("xyz", [7, 8, 9])[0:size])

    def test_empty_slices(self):
        row = Row("ab", [1, 2])
        row[1:1] = Row()
        self.same_rows(row, "ab", [1, 2])
        row[2:2] = Row("c", [3])
        self.same_rows(row, "abc", [1, 2, 3])
        row[0:3] = Row()
        self.same_rows(row, "", [])
        row[0:0] = Row("d", [4])
        self.same_rows(row, "d", [4])

    def test_slice_gets_the_row_itself(self):
        row = Row("abc", [1, 2, 3])
        row[1:2] = row
        self.same_rows(row, "aabcc", [1, 1, 2, 3, 3])
        row = Row("ab", [1, 2])
        row[0:2] = row
        self.same_rows(row, "ab", [1, 2])
        row[1:1] = row
        self.same_rows(row, "aabb", [1, 1, 2, 2])
        row[4:4] = row
        self.same_rows(row, "aabbaabb", [1, 1, 2, 2, 1, 1, 2, 2])

    def test_slice_copies_the_other_row(self):
        row = Row("abc")
        other = Row("x", [1])
        row[0:3] = other
        other[0] = ("y", 2)
        other += Row("z")
        self.same_rows(row, "x", [1])
        row[0] = ("w", 5)
        self.same_rows(other, "yz", [2, 0])

    def test_appended(self):
        row = Row("ab", [1, 2])
        named = row
        other = Row("cd", [3, 4])
        row += other
        self.assertIs(row, named)
        self.same_rows(named, "abcd", [1, 2, 3, 4])
        self.same_rows(other, "cd", [3, 4])
        row += Row()
        self.same_rows(named, "abcd", [1, 2, 3, 4])

    def test_appended_to_the_empty_row(self):
        row = named = Row()
        other = Row("a", [5])
        row += other
        self.assertIs(row, named)
        row[0] = ("b", 6)
        row += Row("c")
        self.same_rows(other, "a", [5])
        other += Row("d")
        self.same_rows(named, "bc", [6, 0])

    def test_change_is_seen_under_a_second_name(self):
        row = named = Row("ab")
        row[0] = ("z", 3)
        row[1:2] = Row("yx")
        self.same_rows(named, "zyx", [3, 0, 0])


if __name__ == "__main__":
    unittest.main()
