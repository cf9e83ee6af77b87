"""The first bound that is enough, and verdicts of a book with one more rule (points 2 and 19)."""

import unittest

from risensigns.books import Book, Rule
from risensigns.errors import BadBound, BookFull, NotEnough, RiseError, TooLarge
from risensigns.lots import Lot, machine_size
from risensigns.rows import Row
from risensigns.verdicts import Verdict, judge, least_enough, tried
from tests.helping import SIZE_300, SIZE_301, Case, copy_of, parts_of, parts_of_machine, some_question


class LeastEnough(Case):
    def test_example_of_the_interface(self):
        self.assertEqual(least_enough(Book.read("ab:b"), most=4), 1)

    def test_first_bound(self):
        for form, wanted in (("", 0), ("a:", 0), ("ab:\nba:", 0), ("ab:b", 1), ("a:b", 1), ("a:b\nb:c", 2),
                             ("a:b\nb:c\nc:d", 3), ("aa:aba", 2), ("a:bb\nb:cc\nc:dd\nd:ee", 4)):
            for most in range(9):
                if most >= wanted:
                    answer = least_enough(Book.read(form), most=most)
                    self.assertEqual(answer, wanted)
                    self.assertIs(type(answer), int)
                else:
                    self.assertIsNone(least_enough(Book.read(form), most=most))

    def test_none_up_to_most(self):
        for most in range(9):
            self.assertIsNone(least_enough(Book.read("a:a"), most=most))
        for most in range(7):
            self.assertIsNone(least_enough(Book.read("aa:a"), most=most))

    def test_most_is_enough(self):
        book = Book.read("a:b\nb:c\nc:d\nd:e\ne:f\nf:g")
        for lot, wanted in ((None, 6), (Lot.every("c"), 4), (Lot.only("gf"), 1), (Lot.only("gg"), 0)):
            self.assertEqual(least_enough(book, most=8, lot=lot), wanted)
            self.assertEqual(least_enough(book, most=wanted, lot=lot), wanted)
            if wanted:
                self.assertIsNone(least_enough(book, most=wanted - 1, lot=lot))
        self.assertEqual(least_enough(Book.read("aa:a"), most=8, lot=Lot.only("a" * 7)), 2)

    def test_lots(self):
        book = Book.read("ab:b")
        for lot, wanted in ((Lot.only("ba", ""), 0), (Lot.only("ab"), 1), (Lot.every("b"), 0), (Lot.every("abz"), 1)):
            self.assertEqual(least_enough(book, most=3, lot=lot), wanted)
        self.assertEqual(least_enough(book, most=3, lot=None), 1)

    def test_wrong_bounds(self):
        for most in (-1, 9, -2, 10):
            self.fault(BadBound, most)(least_enough, Book.read("ab:b"), most=most)
            self.fault(BadBound, most)(least_enough, Book(), most=most, lot=SIZE_301)

    def test_too_large_at_a_bound_that_it_comes_to(self):
        book = Book.read("aa:a")
        for most in (7, 8):
            self.fault(TooLarge, 509)(least_enough, book, most=most)
        book = Book.read("ab:ba")
        self.assertIsNone(least_enough(book, most=5))
        for most in (6, 7, 8):
            self.fault(TooLarge, 380)(least_enough, book, most=most)
        for most in (0, 8):
            self.fault(TooLarge, 301)(least_enough, Book(), most=most, lot=SIZE_301)

    def test_not_too_large_behind_the_first_one_that_is_enough(self):
        book = Book.read("bba:abab")
        lot = Lot.every("ab")
        self.assertEqual([machine_size(book, lot, most=most) > 300 for most in range(5)], [False] * 3 + [True] * 2)
        for most in range(2, 9):
            self.assertEqual(least_enough(book, most=most), 2)
        self.assertIsNone(least_enough(book, most=1))
        self.assertEqual(least_enough(Book(), most=8, lot=SIZE_300), 0)

    def test_against_verdicts(self):
        for seed in range(80):
            book, lot, most = some_question(seed)
            enough = [bound for bound in range(most + 1) if judge(book, most=bound, lot=lot)]
            self.assertEqual(least_enough(book, most=most, lot=lot), min(enough, default=None))

    def test_book_and_lot_stay(self):
        book, lot = Book.read("ab:b\nb:b"), Lot.only("ab", "ba")
        before = (copy_of(book), parts_of(lot))
        self.assertIsNone(least_enough(book, most=3, lot=lot))
        self.fault(BadBound, 9)(least_enough, book, most=9, lot=lot)
        self.assertEqual((copy_of(book), parts_of(lot)), before)

    def test_after_a_change_of_the_book(self):
        book = Book.read("ab:b")
        book.add(Rule("b", "c"))
        self.assertEqual(least_enough(book, most=4), 2)
        book.drop(0)
        book.drop(0)
        self.assertEqual(least_enough(book, most=4), 0)


class Tried(Case):
    def same_verdicts(self, verdict, other):
        self.assertIs(type(verdict), Verdict)
        self.assertEqual((verdict.enough, verdict.most, verdict.least), (other.enough, other.most, other.least))
        if verdict.enough:
            self.assertEqual(parts_of_machine(verdict.machine), parts_of_machine(other.machine))
            self.assertEqual(verdict.limit(7), other.limit(7))

    def test_without_a_lot(self):
        book = Book.read("ab:b")
        for rule, most in ((Rule("b", "c"), 1), (Rule("b", "c"), 2), (Rule("xy", "x"), 1), (Rule("a"), 3),
                           (Rule("b", "b"), 3)):
            verdict = tried(book, rule, most=most)
            self.same_verdicts(verdict, judge(Book(*book, rule), most=most))
            self.assertEqual(book.written(), "ab:b")

    def test_texts_over_the_signs_of_the_rule_count(self):
        # Without the signs of the rule there would be no text that leads beyond the bound.
        book = Book.read("a:")
        verdict = tried(book, Rule("xy", "a"), most=0)
        self.assertEqual((verdict.enough, verdict.least, verdict.play().text), (False, 2, "xy"))
        verdict = tried(book, Rule("xy", "a"), most=1)
        self.assertIn(Row("xax", [0, 1, 0]), verdict.machine)
        self.assertIn(Row("yaa"), verdict.machine)
        self.assertIs(tried(book, Rule("xy", "a"), most=0, lot=Lot.every("a")).enough, True)
        self.assertIs(tried(book, Rule("xy", "a"), most=0, lot=None).enough, False)
        self.assertIs(tried(Book(), Rule("z", "z"), most=8).enough, False)

    def test_with_a_lot(self):
        book = Book.read("ab:b")
        lot = Lot.only("aab", "cb")
        for rule, most, least in ((Rule("b", "c"), 1, 3), (Rule("cb", "a"), 1, None), (Rule("cb", "a"), 0, 2)):
            verdict = tried(book, rule, most=most, lot=lot)
            self.assertEqual(verdict.least, least)
            self.same_verdicts(verdict, judge(Book(*book, rule), most=most, lot=lot))

    def test_verdict_stays_that_of_the_book_with_the_rule(self):
        book = Book.read("a:b")
        verdict = tried(book, Rule("b", "ccc"), most=2)
        low = tried(book, Rule("b", "ccc"), most=1)
        self.assertEqual(book.written(), "a:b")
        book.drop(0)
        self.assertEqual(verdict.limit(2), 32)
        self.assertIn(Row("bccc", [1, 2, 2, 2]), verdict.machine)
        self.assertEqual(self.walk(low.play(), Book.read("a:b\nb:ccc"))[-1], [("c", 2)] * 3)
        self.fault(NotEnough, 1)(low.limit, 1)

    def test_with_five_rules(self):
        book = Book.read("\n".join(["a:"] * 5))
        self.assertIs(tried(book, Rule("b", "a"), most=1).enough, True)
        self.assertEqual(book.written(), "\n".join(["a:"] * 5))

    def test_full_book(self):
        form = "\n".join(["aa:a"] * 6)
        book = Book.read(form)
        before = copy_of(book)
        for most in (-1, 0, 8, 9):
            for lot in (None, SIZE_301):
                self.fault(BookFull)(tried, book, Rule("a", "b"), most=most, lot=lot)
        self.assertEqual(copy_of(book), before)
        self.assertEqual(len(book), 6)

    def test_order_of_errors(self):
        book = Book.read("aa:a")
        for most in (-1, 9, 12):
            self.fault(BadBound, most)(tried, book, Rule("aa", "a"), most=most)
            self.fault(BadBound, most)(tried, book, Rule("aa", "a"), most=most, lot=SIZE_301)
        size = machine_size(Book.read("aa:a\naa:a"), Lot.every("a"), most=8)
        self.fault(TooLarge, size)(tried, book, Rule("aa", "a"), most=8)
        self.fault(TooLarge, 301)(tried, Book(), Rule("z", "z"), most=0, lot=SIZE_301)
        self.assertEqual(book.written(), "aa:a")

    def test_book_afterwards(self):
        book = Book.read("ab:b\nb:")
        rules = list(book)
        rule, lot = Rule("b", "a"), Lot.only("ab", "ba")
        for most in (-1, 0, 1, 8, 9):
            try:
                tried(book, rule, most=most, lot=lot)
            except RiseError:
                pass
            self.assertEqual(len(book), 2)
            for kept, found in zip(rules, book, strict=True):
                self.assertIs(kept, found)
        self.assertEqual((rule.left, rule.right, parts_of(lot)), ("b", "a", parts_of(Lot.only("ab", "ba"))))


if __name__ == "__main__":
    unittest.main()
