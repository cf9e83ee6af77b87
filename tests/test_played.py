"""Plays (points 2 and 21)."""

import types
import unittest

from risensigns.books import Book, Rule
from risensigns.errors import BadPlay, BadSign, Beyond, Mismatch, NoRule
from risensigns.played import Play
from risensigns.rows import Row
from tests.helping import Case, copy_of


def pairs_of(rows):
    return [list(row) for row in rows]


class Played(Case):
    BOOK = "ab:bba\nb:\nb:c"

    def setUp(self):
        self.book = Book.read(self.BOOK)

    def check_play(self, play, text, steps, rows):
        self.assertEqual(play.text, text)
        self.assertEqual(list(play), steps)
        self.assertEqual([type(step) for step in play], [tuple] * len(steps))
        self.assertEqual(len(play), len(steps))
        self.assertEqual([(row.signs, row.heights) for row in play.rows()], rows)
        self.same_rows(play.end(), *rows[-1])

    def test_steps(self):
        play = Play(self.book, "cab", [(0, 1), (1, 2), (2, 1)])
        self.check_play(play, "cab", [(0, 1), (1, 2), (2, 1)],
                        [("cab", [0, 0, 0]), ("cbba", [0, 1, 1, 1]), ("cba", [0, 1, 1]), ("cca", [0, 2, 1])])

    def test_without_steps(self):
        self.check_play(Play(self.book, "cab", []), "cab", [], [("cab", [0, 0, 0])])
        self.check_play(Play(Book(), "", []), "", [], [("", [])])
        self.assertIsNotNone(Play(self.book, "", []))

    def test_to_the_empty_row(self):
        self.check_play(Play(self.book, "bb", [(1, 1), (1, 0)]), "bb", [(1, 1), (1, 0)],
                        [("bb", [0, 0]), ("b", [0]), ("", [])])

    def test_text_whose_signs_are_not_in_the_book(self):
        self.check_play(Play(self.book, "zyb", [(2, 2)]), "zyb", [(2, 2)], [("zyb", [0, 0, 0]), ("zyc", [0, 0, 1])])

    def test_up_to_the_height_9(self):
        book = Book.read("a:a")
        play = Play(book, "a", [(0, 0)] * 9)
        self.assertEqual(pairs_of(play.rows()), [[("a", height)] for height in range(10)])
        self.assertEqual(self.walk(play, book), pairs_of(play.rows()))

    def test_iteration_may_be_repeated(self):
        play = Play(self.book, "b", [(2, 0)])
        self.assertEqual([list(play), list(play)], [[(2, 0)], [(2, 0)]])
        self.assertEqual(pairs_of(play.rows()), pairs_of(play.rows()))

    def test_rows_is_a_generator(self):
        self.assertIsInstance(Play(self.book, "b", []).rows(), types.GeneratorType)
        self.assertEqual([type(row) for row in Play(self.book, "b", [(2, 0)]).rows()], [Row, Row])


class Wrong(Case):
    BOOK = "ab:bba\nb:\nb:c\na:a"

    def setUp(self):
        self.book = Book.read(self.BOOK)

    def bad_play(self, step, cause, value, text, steps):
        kept = list(steps)
        error = self.fault(BadPlay, step)(Play, self.book, text, steps)
        self.assertIs(type(error.__cause__), cause)
        attribute = {NoRule: "number", Mismatch: "at", Beyond: "height"}[cause]
        self.assertEqual(vars(error.__cause__), {attribute: value})
        self.assertEqual(steps, kept)
        self.assertEqual(self.book.written(), self.BOOK)

    def test_no_such_rule(self):
        for number in (-1, 4, 5, -4):
            self.bad_play(0, NoRule, number, "ab", [(number, 0)])
            self.bad_play(1, NoRule, number, "ab", [(0, 0), (number, 0), (7, 7)])
            self.bad_play(2, NoRule, number, "ab", [(0, 0), (1, 0), (number, 0)])

    def test_rule_does_not_fit(self):
        for at in (0, 2, -1, 17):
            self.bad_play(0, Mismatch, at, "ab", [(1, at)])
            self.bad_play(1, Mismatch, at, "ab", [(3, 0), (2, at), (0, 0)])
        self.bad_play(2, Mismatch, 0, "ab", [(3, 0), (1, 1), (0, 0)])
        self.bad_play(0, Mismatch, 0, "", [(1, 0)])

    def test_beyond_the_greatest_height(self):
        self.bad_play(9, Beyond, 10, "a", [(3, 0)] * 10)
        self.bad_play(9, Beyond, 10, "a", [(3, 0)] * 12)
        self.bad_play(10, Beyond, 10, "aab", [(3, 0)] * 9 + [(1, 2), (3, 0)])

    def test_first_wrong_step_counts(self):
        self.bad_play(1, Mismatch, 5, "ab", [(0, 0), (1, 5), (9, 0), (1, 0)])
        self.bad_play(1, NoRule, 9, "ab", [(0, 0), (9, 5), (1, 5)])

    def test_text_before_steps(self):
        for text, at in (("A", 0), ("ab ", 2), ("a\nb", 1), ("a1B", 1), ("ab:", 2)):
            error = self.fault(BadSign, at)(Play, self.book, text, [(9, 9)])
            self.assertIsNone(error.__cause__)
            self.fault(BadSign, at)(Play, self.book, text, [])
            self.fault(BadSign, at)(Play, Book(), text, [(0, 0)])

    def test_book_without_rules(self):
        error = self.fault(BadPlay, 0)(Play, Book(), "ab", [(0, 0)])
        self.assertEqual(vars(error.__cause__), {"number": 0})


class Copies(Case):
    def setUp(self):
        self.book = Book.read("ab:b\nb:cc")
        self.play = Play(self.book, "aab", [(0, 1), (0, 0), (1, 0)])
        self.rows = [[("a", 0), ("a", 0), ("b", 0)], [("a", 0), ("b", 1)], [("b", 1)], [("c", 2), ("c", 2)]]

    def test_book_changed_afterwards(self):
        self.book.drop(0)
        self.book.add(Rule("a", "zzz"))
        self.assertEqual(pairs_of(self.play.rows()), self.rows)
        self.assertEqual(list(self.play.end()), self.rows[-1])
        self.book.drop(0)
        self.book.drop(0)
        self.assertEqual(pairs_of(self.play.rows()), self.rows)

    def test_book_changed_between_two_rows(self):
        found = []
        for row in self.play.rows():
            found.append(list(row))
            if len(self.book):
                self.book.drop(0)
        self.assertEqual(found, self.rows)

    def test_rows_changed_while_they_are_yielded(self):
        found = []
        for row in self.play.rows():
            found.append(list(row))
            row[0] = ("z", 9)
            row += Row("zz")
            row[0:2] = Row()
        self.assertEqual(found, self.rows)
        self.assertEqual(pairs_of(self.play.rows()), self.rows)

    def test_rows_changed_afterwards(self):
        kept = list(self.play.rows())
        for row in kept:
            row[0] = ("z", 9)
        self.assertEqual(pairs_of(self.play.rows()), self.rows)
        self.assertEqual(list(self.play.end()), self.rows[-1])

    def test_end_is_new(self):
        end = self.play.end()
        end[0] = ("z", 9)
        self.assertEqual(list(self.play.end()), self.rows[-1])
        self.assertEqual(pairs_of(self.play.rows()), self.rows)
        first = Play(self.book, "ab", [])
        first.end()[0] = ("z", 9)
        self.same_rows(first.end(), "ab", [0, 0])

    def test_list_of_steps_is_neither_changed_nor_kept(self):
        steps = [(0, 1), (0, 0)]
        play = Play(self.book, "aab", steps)
        self.assertEqual(steps, [(0, 1), (0, 0)])
        steps[0] = (9, 9)
        steps.append((8, 8))
        self.assertEqual((list(play), len(play)), ([(0, 1), (0, 0)], 2))
        self.assertEqual(pairs_of(play.rows()), self.rows[:3])

    def test_lists_made_of_a_play_are_new(self):
        list(self.play).clear()
        self.assertEqual(list(self.play), [(0, 1), (0, 0), (1, 0)])

    def test_book_stays(self):
        before = copy_of(self.book)
        list(self.play.rows())
        self.play.end()
        self.fault(BadPlay, 0)(Play, self.book, "aab", [(0, 0)])
        self.fault(BadSign, 0)(Play, self.book, "-", [])
        self.assertEqual(copy_of(self.book), before)


if __name__ == "__main__":
    unittest.main()
