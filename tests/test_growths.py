"""Growths and sizes (point 12)."""

import unittest

from risensigns.books import Book, Rule
from risensigns.errors import BadBound, BadHeight
from tests.helping import Case


def size_by_sum(book, sign, most, height):
    """The size as the document's sum says it, growth by growth."""
    rules = list(book)
    size = 1
    for number, _ in book.growths(sign):
        rule = rules[number]
        if rule.right == "" or height < most:
            size += len(rule.left) - 1
            size += sum(size_by_sum(book, other, most, height + 1) for other in rule.right)
    return size


class Growths(Case):
    def test_by_number_then_by_place(self):
        book = Book.read("aba:b\nb:a\nbaa:")
        self.assertEqual(list(book.growths("a")), [(0, 0), (0, 2), (2, 1), (2, 2)])
        self.assertEqual(list(book.growths("b")), [(0, 1), (1, 0), (2, 0)])

    def test_none(self):
        self.assertEqual(list(Book.read("a:b").growths("b")), [])
        self.assertEqual(list(Book.read("a:b").growths("z")), [])
        self.assertEqual(list(Book().growths("a")), [])

    def test_every_place_of_a_left_side(self):
        self.assertEqual(list(Book.read("aaaa:b").growths("a")), [(0, 0), (0, 1), (0, 2), (0, 3)])

    def test_same_rule_twice(self):
        self.assertEqual(list(Book.read("a:b\na:b").growths("a")), [(0, 0), (1, 0)])

    def test_tuples_of_a_generator(self):
        growths = Book.read("aa:").growths("a")
        self.assertIs(iter(growths), growths)
        self.assertIs(type(next(growths)), tuple)
        self.assertEqual(list(growths), [(0, 1)])

    def test_after_changes(self):
        book = Book.read("a:b")
        book.add(Rule("ca"))
        self.assertEqual(list(book.growths("a")), [(0, 0), (1, 1)])
        book.drop(0)
        self.assertEqual(list(book.growths("a")), [(0, 1)])


class Sizes(Case):
    def test_no_growth(self):
        for most in range(9):
            for height in range(most + 1):
                self.assertEqual(Book().grown("a", most=most, height=height), 1)
                self.assertEqual(Book.read("a:bb").grown("b", most=most, height=height), 1)
                self.assertEqual(Book.read("a:bb").grown("z", most=most, height=height), 1)

    def test_empty_right_side_counts_at_each_height(self):
        book = Book.read("abc:\naa:")
        for most in range(9):
            for height in range(most + 1):
                self.assertEqual(book.grown("a", most=most, height=height), 1 + 2 + 1 + 1)
                self.assertEqual(book.grown("b", most=most, height=height), 3)

    def test_right_side_counts_below_the_bound(self):
        book = Book.read("ab:b")
        self.assertEqual(book.grown("a", most=0), 1)
        self.assertEqual(book.grown("a", most=1), 1 + 1 + 1)
        self.assertEqual(book.grown("b", most=1), 3)
        self.assertEqual(book.grown("b", most=2), 1 + 1 + 3)
        self.assertEqual(book.grown("b", most=2, height=1), 3)
        self.assertEqual(book.grown("b", most=2, height=2), 1)

    def test_each_place_of_a_right_side_counts(self):
        book = Book.read("a:bbb\nb:cc")
        self.assertEqual(book.grown("a", most=1), 1 + 3)
        self.assertEqual(book.grown("a", most=2), 1 + 3 * (1 + 2))
        self.assertEqual(book.grown("a", most=8), 1 + 3 * (1 + 2))

    def test_sign_twice_in_a_left_side(self):
        self.assertEqual(Book.read("aa:a").grown("a", most=1), 1 + 2 * (1 + 1))

    def test_height_left_out_is_0(self):
        book = Book.read("ab:bba\nb:")
        self.assertEqual(book.grown("a", most=3), book.grown("a", most=3, height=0))
        self.assertNotEqual(book.grown("a", most=3), book.grown("a", most=3, height=1))

    def test_sums_of_the_document(self):
        forms = ["ab:bba\nb:", "aa:bb\nb:a\nab:", "abcd:dcba\na:\nd:aa", "a:b\nb:c\nc:a", "aab:\nba:ab\naa:a\na:bb"]
        for form in forms:
            book = Book.read(form)
            for most in range(4):
                for height in range(most + 1):
                    for sign in "abcdz":
                        wanted = size_by_sum(book, sign, most, height)
                        self.assertEqual(book.grown(sign, most=most, height=height), wanted)

    def test_only_the_distance_to_the_bound_counts(self):
        book = Book.read("ab:bba\nb:")
        for most in range(9):
            for height in range(most + 1):
                self.assertEqual(book.grown("a", most=most, height=height), book.grown("a", most=most - height))

    def test_largest_book_at_the_greatest_bound(self):
        book = Book(*[Rule("aaaa", "aaaa")] * 6)
        size = 1
        for _ in range(8):
            size = 1 + 24 * (3 + 4 * size)
        self.assertEqual(book.grown("a", most=8), size)
        book = Book.read("abcd:bcda\nbcda:cdab\ncdab:dabc\ndabc:abcd\naabb:ccdd\nccdd:aabb")
        size = 1
        for _ in range(8):
            # Each sign stands in six growths: four of the first rules, two of the last.
            size = 1 + 6 * (3 + 4 * size)
        for sign in "abcd":
            self.assertEqual(book.grown(sign, most=8), size)

    def test_wrong_bounds(self):
        book = Book.read("a:b")
        for most in (-1, 9, 10, -2):
            self.fault(BadBound, most)(book.grown, "a", most=most)
            self.fault(BadBound, most)(book.grown, "z", most=most)
            self.fault(BadBound, most)(book.grown, "a", most=most, height=-1)
            self.fault(BadBound, most)(book.grown, "a", most=most, height=20)

    def test_wrong_heights(self):
        book = Book.read("a:b")
        for sign in "az":
            for most, height in [(0, 1), (3, 4), (3, -1), (8, 9), (8, -1), (5, 7), (0, -2)]:
                self.fault(BadHeight, height)(book.grown, sign, most=most, height=height)

    def test_after_changes(self):
        book = Book.read("ab:b")
        book.add(Rule("a", "bb"))
        self.assertEqual(book.grown("a", most=1), 1 + 2 + 2)
        book += Rule("ba")
        # At the height 1 the sign b has the size 2 from now on.
        self.assertEqual(book.grown("a", most=1), 1 + (1 + 2) + (2 + 2) + 1)
        book.drop(0)
        self.assertEqual(book.grown("a", most=1), 1 + (2 + 2) + 1)
        self.assertEqual(book.grown("a", most=0), 1 + 1)


if __name__ == "__main__":
    unittest.main()
