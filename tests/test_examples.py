"""The examples of the interface and of README.md."""

import doctest
import os
import unittest

from risensigns.books import Book, Rule
from risensigns.rows import Row
from risensigns.verdicts import judge, least_enough

ROOT = os.path.dirname(os.path.dirname(os.path.abspath(__file__)))


class Examples(unittest.TestCase):
    def test_row(self):
        self.assertEqual(Row("abb", [0, 2, 1]).shown(), " a b b\n 0 2 1")

    def test_rule(self):
        self.assertEqual(Rule("ab", "bba")(Row("cab", [0, 3, 1]), at=1).heights, [0, 2, 2, 2])

    def test_book(self):
        self.assertEqual(list(Book.read("ab:b\nb:").steps(Row("aab"))), [(0, 1), (1, 2)])

    def test_judge(self):
        verdict = judge(Book.read("ab:b"), most=0)
        self.assertEqual((verdict.enough, verdict.least, verdict.play().text, list(verdict.play())),
                         (False, 2, "ab", [(0, 0)]))

    def test_least_enough(self):
        self.assertEqual(least_enough(Book.read("ab:b"), most=4), 1)

    def test_readme(self):
        path = os.path.join(ROOT, "README.md")
        result = doctest.testfile(path, module_relative=False, encoding="utf-8")
        self.assertGreater(result.attempted, 10)
        self.assertEqual(result.failed, 0)


if __name__ == "__main__":
    unittest.main()
