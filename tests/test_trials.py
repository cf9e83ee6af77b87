"""Trials (points 2 and 15)."""

import unittest

from risensigns.books import Book, Rule, Trial
from risensigns.errors import BookFull, NoRule
from tests.helping import Case


class Trials(Case):
    def setUp(self):
        self.book = Book.read("a:b\nb:cc")
        self.rules = list(self.book)

    def check_as_before(self):
        self.assertEqual(len(self.book), len(self.rules))
        for rule, kept in zip(self.book, self.rules, strict=True):
            self.assertIs(rule, kept)

    def test_made_and_not_entered(self):
        Trial(self.book, Rule("c"))
        self.check_as_before()

    def test_entered(self):
        rule = Rule("c", "dddd")
        with Trial(self.book, rule) as book:
            self.assertIs(book, self.book)
            self.assertEqual(book.written(), "a:b\nb:cc\nc:dddd")
            self.assertIs(list(book)[2], rule)
            self.assertEqual((book.signs, book.longest), ("abcd", 4))
        self.check_as_before()
        self.assertEqual((self.book.signs, self.book.longest), ("abc", 2))

    def test_changes_inside(self):
        with Trial(self.book, Rule("c")) as book:
            book.drop(0)
            book.add(Rule("x"))
            book += Rule("y")
            book.drop(1)
            self.assertEqual(book.written(), "b:cc\nx:\ny:")
        self.check_as_before()

    def test_trial_rule_dropped_inside(self):
        with Trial(self.book, Rule("c")) as book:
            book.drop(2)
        self.check_as_before()

    def test_all_rules_dropped_inside(self):
        with Trial(self.book, Rule("c")) as book:
            while len(book):
                book.drop(0)
        self.check_as_before()

    def test_filled_inside(self):
        with Trial(self.book, Rule("c")) as book:
            for _ in range(3):
                book.add(Rule("x"))
            self.fault(BookFull)(book.add, Rule("x"))
        self.check_as_before()

    def test_error_inside_is_passed_on(self):
        raised = KeyError("inside")
        with self.assertRaises(KeyError) as caught:
            with Trial(self.book, Rule("c")) as book:
                book.drop(0)
                raise raised
        self.assertIs(caught.exception, raised)
        self.check_as_before()

    def test_own_error_inside_is_passed_on(self):
        def dropping():
            with Trial(self.book, Rule("c")) as book:
                book.drop(1)
                book.drop(5)
        self.fault(NoRule, 5)(dropping)
        self.check_as_before()

    def test_left_by_return(self):
        def leaving():
            with Trial(self.book, Rule("c")) as book:
                return len(book)
        self.assertEqual(leaving(), 3)
        self.check_as_before()

    def test_up_to_the_full_book(self):
        self.book = Book.read("\n".join(["a:b"] * 5))
        self.rules = list(self.book)
        with Trial(self.book, Rule("c")) as book:
            self.assertEqual(len(book), 6)
        self.check_as_before()

    def test_full_book(self):
        self.book = Book.read("\n".join(["a:b"] * 6))
        self.rules = list(self.book)
        trial = Trial(self.book, Rule("c"))
        entered = []

        def entering():
            with trial:
                entered.append(True)
        self.fault(BookFull)(entering)
        self.assertEqual(entered, [])
        self.check_as_before()

    def test_full_only_when_made(self):
        book = Book.read("\n".join(["a:b"] * 6))
        trial = Trial(book, Rule("c"))
        book.drop(0)
        with trial:
            self.assertEqual(book.written(), "\n".join(["a:b"] * 5 + ["c:"]))
        self.assertEqual(len(book), 5)

    def test_rules_at_entry_count(self):
        trial = Trial(self.book, Rule("c"))
        self.book.add(Rule("z"))
        self.rules = list(self.book)
        with trial as book:
            self.assertEqual(book.written(), "a:b\nb:cc\nz:\nc:")
        self.check_as_before()

    def test_second_use(self):
        trial = Trial(self.book, Rule("c"))
        for _ in range(2):
            with trial as book:
                self.assertEqual(book.written(), "a:b\nb:cc\nc:")
                book.drop(0)
            self.check_as_before()
        self.book.drop(0)
        self.book.add(Rule("z"))
        self.rules = list(self.book)
        with trial as book:
            self.assertEqual(book.written(), "b:cc\nz:\nc:")
        self.check_as_before()

    def test_second_use_after_an_error(self):
        trial = Trial(self.book, Rule("c"))
        with self.assertRaises(KeyError):
            with trial:
                raise KeyError
        with trial as book:
            self.assertEqual(book.written(), "a:b\nb:cc\nc:")
        self.check_as_before()

    def test_change_after_the_end_stays(self):
        with Trial(self.book, Rule("c")):
            pass
        self.book.add(Rule("z"))
        self.assertEqual(self.book.written(), "a:b\nb:cc\nz:")

    def test_one_trial_in_another(self):
        with Trial(self.book, Rule("c")):
            with Trial(self.book, Rule("d")) as book:
                self.assertEqual(book.written(), "a:b\nb:cc\nc:\nd:")
                book.drop(0)
            self.assertEqual(book.written(), "a:b\nb:cc\nc:")
        self.check_as_before()

    def test_trial_of_the_empty_book(self):
        book = Book()
        with Trial(book, Rule("c")):
            self.assertEqual(book.written(), "c:")
        self.assertEqual(book.written(), "")

    def test_copies_made_inside_stay(self):
        with Trial(self.book, Rule("c")) as book:
            copied = Book(*book)
        self.assertEqual(copied.written(), "a:b\nb:cc\nc:")


if __name__ == "__main__":
    unittest.main()
