"""Steps, weights and limits of books (points 10 and 11)."""

import itertools
import unittest

from risensigns.books import Book, Rule
from risensigns.errors import BadBound, BadHeight, Beyond, Mismatch, NoRule
from risensigns.rows import Row
from tests.helping import Case


class Steps(Case):
    def test_by_place_then_by_number(self):
        book = Book.read("b:\nab:b\na:\nab:")
        self.assertEqual(list(book.steps(Row("aab"))), [(2, 0), (1, 1), (2, 1), (3, 1), (0, 2)])

    def test_same_rule_twice(self):
        self.assertEqual(list(Book.read("a:b\na:b").steps(Row("aca"))), [(0, 0), (1, 0), (0, 2), (1, 2)])

    def test_overlapping_places(self):
        self.assertEqual(list(Book.read("aa:").steps(Row("aaaa"))), [(0, 0), (0, 1), (0, 2)])

    def test_left_side_ends_with_the_row(self):
        self.assertEqual(list(Book.read("abcd:\ncd:\nde:").steps(Row("abcd"))), [(0, 0), (1, 2)])

    def test_none(self):
        self.assertEqual(list(Book().steps(Row("ab"))), [])
        self.assertEqual(list(Book.read("a:b").steps(Row())), [])
        self.assertEqual(list(Book.read("ab:b").steps(Row("ba"))), [])

    def test_heights_do_not_matter(self):
        book = Book.read("ab:b\nb:")
        self.assertEqual(list(book.steps(Row("aab", [9, 9, 9]))), [(0, 1), (1, 2)])

    def test_tuples_of_a_generator(self):
        steps = Book.read("a:").steps(Row("aa"))
        self.assertIs(iter(steps), steps)
        self.assertIs(type(next(steps)), tuple)
        self.assertEqual(list(steps), [(0, 1)])

    def test_row_and_book_stay(self):
        book = Book.read("a:b")
        row = Row("aa", [1, 2])
        list(book.steps(row))
        self.same_rows(row, "aa", [1, 2])
        self.assertEqual(book.written(), "a:b")

    def test_after_changes(self):
        book = Book.read("a:b")
        row = Row("ab")
        book.add(Rule("b"))
        self.assertEqual(list(book.steps(row)), [(0, 0), (1, 1)])
        book.drop(0)
        row[0] = ("b", 0)
        self.assertEqual(list(book.steps(row)), [(0, 0), (0, 1)])


class Take(Case):
    BOOK = "ab:bba\nb:\nb:c"

    def setUp(self):
        self.book = Book.read(self.BOOK)

    def test_step(self):
        row = Row("cab", [0, 3, 1])
        self.same_rows(self.book.take(row, 0, 1), "cbba", [0, 2, 2, 2])
        self.same_rows(self.book.take(row, 1, 2), "ca", [0, 3])
        self.same_rows(self.book.take(row, 2, 2), "cac", [0, 3, 2])
        self.same_rows(row, "cab", [0, 3, 1])

    def test_result_is_new(self):
        row = Row("zb")
        taken = self.book.take(row, 2, 1)
        row[0] = ("y", 5)
        self.same_rows(taken, "zc", [0, 1])
        taken[0] = ("x", 6)
        self.same_rows(row, "yb", [5, 0])

    def test_bounds(self):
        for most in range(10):
            for height in range(10):
                row = Row("ab", [height, 9])
                if height + 1 > most:
                    self.fault(Beyond, height + 1)(self.book.take, row, 0, 0, most=most)
                else:
                    self.same_rows(self.book.take(row, 0, 0, most=most), "bba", [height + 1] * 3)

    def test_empty_right_side_writes_nothing(self):
        for most in range(10):
            self.same_rows(self.book.take(Row("bb", [9, 9]), 1, 1, most=most), "b", [9])

    def test_bound_left_out_is_9(self):
        self.same_rows(self.book.take(Row("ab", [8, 9]), 0, 0), "bba", [9, 9, 9])
        self.fault(Beyond, 10)(self.book.take, Row("ab", [9, 9]), 0, 0)

    def test_other_heights_may_be_above_the_bound(self):
        self.same_rows(self.book.take(Row("cabc", [9, 0, 7, 8]), 0, 1, most=1), "cbbac", [9, 1, 1, 1, 8])

    def test_wrong_bounds(self):
        for most in (-1, 10, 11, -9):
            self.fault(BadBound, most)(self.book.take, Row("b"), 1, 0, most=most)

    def test_wrong_numbers(self):
        for number in (-1, 3, 4, -3):
            self.fault(NoRule, number)(self.book.take, Row("b"), number, 0)
        self.fault(NoRule, 0)(Book().take, Row("b"), 0, 0)

    def test_wrong_places(self):
        for at in (0, 2, 3, -1, -2):
            self.fault(Mismatch, at)(self.book.take, Row("ab"), 1, at)
        self.fault(Mismatch, 0)(self.book.take, Row(), 1, 0)

    def test_order_of_errors(self):
        row = Row("ab", [9, 9])
        self.fault(BadBound, 10)(self.book.take, row, 7, 7, most=10)
        self.fault(BadBound, -1)(self.book.take, row, 0, 0, most=-1)
        self.fault(NoRule, 7)(self.book.take, row, 7, 7, most=0)
        self.fault(Mismatch, 7)(self.book.take, row, 0, 7, most=0)
        self.fault(Mismatch, -2)(self.book.take, row, 0, -2, most=0)
        self.same_rows(row, "ab", [9, 9])
        self.assertEqual(self.book.written(), self.BOOK)


class Weight(Case):
    def test_sum_of_powers(self):
        book = Book.read("ab:bb\na:")
        self.assertEqual(book.weight(Row("abcx", [0, 1, 2, 2]), most=2), 9 + 3 + 1 + 1)
        self.assertEqual(book.weight(Row("abcx", [0, 1, 2, 2]), most=4), 81 + 27 + 9 + 9)
        self.assertEqual(book.weight(Row(), most=5), 0)

    def test_bound_0(self):
        self.assertEqual(Book.read("a:bbbb").weight(Row("aaa"), most=0), 3)
        self.assertEqual(Book().weight(Row("aaa"), most=0), 3)

    def test_bound_9(self):
        row = Row("aab", [0, 9, 8])
        self.assertEqual(Book.read("a:bbbb").weight(row, most=9), 5 ** 9 + 1 + 5)
        self.assertEqual(Book().weight(row, most=9), 3)
        self.assertEqual(Book.read("a:\nb:").weight(row, most=9), 3)
        self.assertEqual(Book.read("a:b").weight(row, most=9), 512 + 1 + 2)

    def test_height_above_the_bound(self):
        book = Book.read("a:b")
        self.fault(BadHeight, 3)(book.weight, Row("abc", [2, 3, 2]), most=1)
        self.fault(BadHeight, 1)(book.weight, Row("a", [1]), most=0)
        self.fault(BadHeight, 9)(book.weight, Row("ab", [9, 1]), most=8)
        self.assertEqual(book.weight(Row("a", [8]), most=8), 1)

    def test_order_of_errors(self):
        for most in (-1, 10, -2, 11):
            self.fault(BadBound, most)(Book.read("a:b").weight, Row("a", [9]), most=most)
            self.fault(BadBound, most)(Book().weight, Row(), most=most)

    def test_up_to_date(self):
        book = Book.read("a:b")
        book.add(Rule("a", "bbb"))
        self.assertEqual(book.weight(Row("a"), most=2), 16)
        book.drop(1)
        self.assertEqual(book.weight(Row("a"), most=2), 4)

    def test_each_step_within_the_bound_lowers_it(self):
        for form in ("ab:bba\nb:", "a:bbbb\nb:a", "aa:b\nab:aaaa", "a:\nbb:"):
            book = Book.read(form)
            for signs, heights in itertools.product(itertools.product("ab", repeat=3),
                                                    itertools.product(range(3), repeat=3)):
                self.check_lowered(book, Row("".join(signs), list(heights)), 2)

    def check_lowered(self, book, row, most):
        before = book.weight(row, most=most)
        for number, at in list(book.steps(row)):
            try:
                taken = book.take(row, number, at, most=most)
            except Beyond:
                continue
            self.assertLessEqual(book.weight(taken, most=most), before - 1)


class Limit(Case):
    def test_weight_of_a_text(self):
        for form in ("", "a:", "a:b", "ab:bba\nb:", "a:bbbb"):
            book = Book.read(form)
            for most in range(10):
                for many in range(4):
                    limit = book.limit(many, most=most)
                    self.assertEqual(limit, book.weight(Row("a" * many), most=most))
                    self.assertEqual(limit, many * (book.longest + 1) ** most)

    def test_values(self):
        self.assertEqual(Book.read("a:bbbb").limit(100, most=9), 195312500)
        self.assertEqual(Book.read("a:bbbb").limit(7, most=0), 7)
        self.assertEqual(Book().limit(7, most=9), 7)
        self.assertEqual(Book.read("a:bb").limit(0, most=4), 0)

    def test_wrong_bounds(self):
        for most in (-1, 10, -2, 11):
            self.fault(BadBound, most)(Book.read("a:b").limit, 1, most=most)
            self.fault(BadBound, most)(Book().limit, 0, most=most)

    def test_up_to_date(self):
        book = Book()
        book.add(Rule("a", "bb"))
        self.assertEqual(book.limit(2, most=2), 18)
        book.drop(0)
        self.assertEqual(book.limit(2, most=2), 2)


if __name__ == "__main__":
    unittest.main()
