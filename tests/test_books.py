"""Books: their rules and their written form (points 2, 8 and 9)."""

import string
import unittest

from risensigns.books import Book, Rule
from risensigns.errors import BadLine, BadRule, BadSign, BookFull, NoRule
from tests.helping import Case


def book_of(*words):
    """A book that is not read from a text."""
    return Book(*[Rule(*word.split(":")) for word in words])


def words_of(book):
    return [str(rule) for rule in book]


class Rules(Case):
    def test_numbers_of_rules(self):
        for many in range(7):
            rules = [Rule("a", "b" * (at % 5)) for at in range(many)]
            book = Book(*rules)
            self.assertEqual(len(book), many)
            for rule, kept in zip(rules, book, strict=True):
                self.assertIs(rule, kept)

    def test_too_many_rules(self):
        self.fault(BookFull)(Book, *[Rule("a")] * 7)
        self.fault(BookFull)(Book, *[Rule("a")] * 8)

    def test_same_rule_twice(self):
        rule = Rule("a", "b")
        self.assertEqual(words_of(Book(rule, rule)), ["a:b", "a:b"])
        self.assertEqual(words_of(Book(rule, Rule("a", "b"))), ["a:b", "a:b"])
        self.assertEqual(words_of(Book(*[rule] * 6)), ["a:b"] * 6)

    def test_add(self):
        book = Book()
        for many in range(6):
            self.assertIsNone(book.add(Rule("a", "b" * (many % 5))))
            self.assertEqual(len(book), many + 1)
        self.assertEqual(words_of(book), ["a:", "a:b", "a:bb", "a:bbb", "a:bbbb", "a:"])
        self.fault(BookFull)(book.add, Rule("c"))
        self.assertEqual(words_of(book), ["a:", "a:b", "a:bb", "a:bbb", "a:bbbb", "a:"])

    def test_in_place(self):
        book = named = book_of("a:b", "b:a")
        book += Rule("c")
        self.assertIs(book, named)
        self.assertEqual(words_of(named), ["a:b", "b:a", "c:"])

    def test_in_place_up_to_the_edge(self):
        book = named = book_of(*["a:b"] * 5)
        book += Rule("c")
        self.assertIs(book, named)
        self.assertEqual(words_of(named), ["a:b"] * 5 + ["c:"])
        self.fault(BookFull)(named.__iadd__, Rule("d"))
        self.assertEqual(words_of(named), ["a:b"] * 5 + ["c:"])

    def test_drop(self):
        for number in range(6):
            words = ["a:", "b:", "c:", "d:", "e:", "f:"]
            book = book_of(*words)
            rules = list(book)
            self.assertIs(book.drop(number), rules[number])
            del words[number]
            self.assertEqual(words_of(book), words)

    def test_drop_down_to_the_empty_book(self):
        book = book_of("a:b", "b:a")
        self.assertEqual(str(book.drop(0)), "a:b")
        self.assertEqual(str(book.drop(0)), "b:a")
        self.assertEqual((len(book), list(book)), (0, []))
        self.fault(NoRule, 0)(book.drop, 0)

    def test_no_rule_to_drop(self):
        book = book_of("a:b", "b:a")
        for number in (-1, -2, 2, 3, 100):
            self.fault(NoRule, number)(book.drop, number)
        self.fault(NoRule, 0)(Book().drop, 0)
        self.assertEqual(words_of(book), ["a:b", "b:a"])

    def test_add_after_drop(self):
        book = book_of(*["a:b"] * 6)
        book.drop(5)
        book.add(Rule("z"))
        self.assertEqual(words_of(book), ["a:b"] * 5 + ["z:"])

    def test_book_of_a_books_rules(self):
        book = book_of("a:b", "b:a")
        copied = Book(*book)
        book.add(Rule("c", "dddd"))
        book.drop(0)
        self.assertEqual(words_of(copied), ["a:b", "b:a"])
        self.assertEqual((copied.signs, copied.longest), ("ab", 1))
        copied.drop(1)
        copied += Rule("x")
        self.assertEqual(words_of(book), ["b:a", "c:dddd"])

    def test_passed_list_is_not_kept(self):
        rules = [Rule("a"), Rule("b")]
        book = Book(*rules)
        rules.append(Rule("c"))
        book.drop(0)
        self.assertEqual(words_of(book), ["b:"])
        self.assertEqual([str(rule) for rule in rules], ["a:", "b:", "c:"])


class SignsAndLongest(Case):
    def test_empty_book(self):
        self.assertEqual((Book().signs, Book().longest), ("", 0))

    def test_signs(self):
        self.assertEqual(book_of("zb:ab", "c:", "b:y").signs, "abcyz")
        self.assertEqual(book_of("m:").signs, "m")
        self.assertEqual(book_of("b:a").signs, "ab")
        self.assertEqual(book_of("a:zyx").signs, "axyz")
        self.assertEqual(book_of("aaaa:aaaa").signs, "a")
        words = ["zyxw:abcd", "vuts:efgh", "rqpo:ijkl", "nm:nm"]
        self.assertEqual(book_of(*words).signs, string.ascii_lowercase)

    def test_longest(self):
        self.assertEqual(book_of("aaaa:").longest, 0)
        self.assertEqual(book_of("aaaa:b").longest, 1)
        self.assertEqual(book_of("a:b", "a:bbb", "aaaa:bb").longest, 3)
        self.assertEqual(book_of("a:bbbb", "a:").longest, 4)

    def test_up_to_date(self):
        book = Book()
        book.add(Rule("b", "cc"))
        self.assertEqual((book.signs, book.longest), ("bc", 2))
        book += Rule("a", "zzz")
        self.assertEqual((book.signs, book.longest), ("abcz", 3))
        book.drop(0)
        self.assertEqual((book.signs, book.longest), ("az", 3))
        book.drop(0)
        self.assertEqual((book.signs, book.longest), ("", 0))


class Written(Case):
    FORMS = ["", "a:", "ab:bba", "ab:b\nb:", "a:a\na:a", "abcd:efgh\nz:\naaaa:bbbb", "\n".join(["a:b"] * 6)]

    def test_there_and_back(self):
        for form in self.FORMS:
            book = Book.read(form)
            self.assertIs(type(book), Book)
            self.assertEqual(book.written(), form)
            self.assertEqual(book.data(), form.encode())
            self.assertIs(type(book.data()), bytes)
            self.assertEqual(words_of(book), form.split("\n") if form else [])
            self.assertEqual(Book.read(book.data()).written(), form)

    def test_sides_of_read_rules(self):
        book = Book.read("ab:bba\nc:")
        self.assertEqual([(rule.left, rule.right) for rule in book], [("ab", "bba"), ("c", "")])

    def test_written_after_changes(self):
        book = Book()
        self.assertEqual((book.written(), book.data()), ("", b""))
        book.add(Rule("a", "b"))
        self.assertEqual((book.written(), book.data()), ("a:b", b"a:b"))
        book += Rule("b")
        self.assertEqual((book.written(), book.data()), ("a:b\nb:", b"a:b\nb:"))
        book.drop(0)
        self.assertEqual((book.written(), book.data()), ("b:", b"b:"))

    def test_invalid_lines_without_a_cause(self):
        for wrong in ("ab", "a:b:c", "::", "a::b", ":a:", "a b", "A", " "):
            self.check_each_place(wrong, None)

    def test_invalid_lines_with_a_bad_sign(self):
        for wrong, at in [("a b:c", 1), (" a:c", 0), ("ab:c ", 1), ("A:b", 0), ("abc-:B", 3), ("a:b\t", 1), (" :", 0)]:
            self.check_each_place(wrong, BadSign, at)
        self.check_each_place("aaaaa:B", BadSign, 0)

    def test_invalid_lines_with_a_bad_rule(self):
        for wrong in (":", ":a", "abcde:", "a:bcdef", ":bcdef"):
            self.check_each_place(wrong, BadRule)

    def check_each_place(self, wrong, kind, *at):
        for many in range(1, 9):
            for place in range(many):
                lines = ["a:b"] * many
                lines[place] = wrong
                text = "\n".join(lines)
                for form in (text, text.encode()):
                    error = self.fault(BadLine, place + 1)(Book.read, form)
                    self.check_cause(error.__cause__, kind, at)

    def check_cause(self, cause, kind, at):
        if kind is None:
            self.assertIsNone(cause)
        else:
            self.assertIs(type(cause), kind)
            self.assertEqual(vars(cause), {"at": at[0]} if at else {})

    def test_empty_lines(self):
        for text, line in [("\n", 1), ("\n\n", 1), ("\na:b", 1), ("a:b\n\nb:a", 2), ("a:b\n", 2), ("a:b\nb:a\n", 3)]:
            error = self.fault(BadLine, line)(Book.read, text)
            self.assertIsNone(error.__cause__)

    def test_first_invalid_line(self):
        self.fault(BadLine, 2)(Book.read, "a:b\nab\nA:\n")
        error = self.fault(BadLine, 1)(Book.read, ":\nab")
        self.assertIs(type(error.__cause__), BadRule)

    def test_too_many_lines(self):
        self.fault(BookFull)(Book.read, "\n".join(["a:b"] * 7))
        self.fault(BookFull)(Book.read, "\n".join(["a:b"] * 20).encode())

    def test_bad_line_before_book_full(self):
        self.fault(BadLine, 8)(Book.read, "\n".join(["a:b"] * 7) + "\n")
        self.fault(BadLine, 7)(Book.read, "\n".join(["a:b"] * 6) + "\n")
        self.fault(BadLine, 9)(Book.read, "\n".join(["a:b"] * 8 + ["a"]))


if __name__ == "__main__":
    unittest.main()
