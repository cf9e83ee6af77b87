"""The names, arguments and kinds that the interface lists."""

import inspect
import unittest

from risensigns import books, lots, rows

SIGNATURES = [
    (rows.Row, "(text='', heights=None)"),
    (rows.Row.shown, "(self)"),
    (books.Rule, "(left, right='')"),
    (books.Rule.__call__, "(self, row, at=0)"),
    (books.Book, "(*rules)"),
    (books.Book.read, "(text)"),
    (books.Book.written, "(self)"),
    (books.Book.data, "(self)"),
    (books.Book.add, "(self, rule)"),
    (books.Book.drop, "(self, number)"),
    (books.Book.steps, "(self, row)"),
    (books.Book.take, "(self, row, number, at, *, most=9)"),
    (books.Book.growths, "(self, sign)"),
    (books.Book.grown, "(self, sign, *, most, height=0)"),
    (books.Book.weight, "(self, row, *, most)"),
    (books.Book.limit, "(self, many, *, most)"),
    (books.Trial, "(book, rule)"),
    (lots.Lot, "(states, last, moves)"),
    (lots.Lot.every, "(signs)"),
    (lots.Lot.only, "(*texts)"),
    (lots.machine_size, "(book, lot, *, most)"),
]

MEMBERS = {
    rows.Row: ["signs", "heights", "__len__", "__iter__", "__eq__", "__lt__", "__add__", "__rmul__", "__lshift__",
               "__contains__", "__abs__", "__getitem__", "__setitem__", "__iadd__", "shown"],
    books.Rule: ["__call__", "__str__"],
    books.Book: ["signs", "longest", "__len__", "__iter__", "__iadd__", "read", "written", "data", "add", "drop",
                 "steps", "take", "growths", "grown", "weight", "limit"],
    books.Trial: ["__enter__", "__exit__"],
    lots.Lot: ["states", "last", "moves", "__contains__", "every", "only"],
}

PROPERTIES = [(rows.Row, "signs"), (rows.Row, "heights"), (books.Book, "signs"), (books.Book, "longest"),
              (lots.Lot, "states"), (lots.Lot, "last"), (lots.Lot, "moves")]

FILES = {"risensigns.rows": [rows.Row], "risensigns.books": [books.Rule, books.Book, books.Trial],
         "risensigns.lots": [lots.Lot, lots.machine_size]}


class Interface(unittest.TestCase):
    def test_arguments(self):
        for listed, wanted in SIGNATURES:
            self.assertEqual(str(inspect.signature(listed)), wanted, listed)

    def test_members_stand_in_the_class_itself(self):
        for listed, names in MEMBERS.items():
            for name in names:
                self.assertIn(name, vars(listed))

    def test_properties(self):
        for listed, name in PROPERTIES:
            self.assertIsInstance(vars(listed)[name], property)

    def test_class_methods(self):
        for listed, name in [(books.Book, "read"), (lots.Lot, "every"), (lots.Lot, "only")]:
            self.assertIsInstance(vars(listed)[name], classmethod)

    def test_generators(self):
        for listed in (books.Book.steps, books.Book.growths):
            self.assertTrue(inspect.isgeneratorfunction(listed))

    def test_each_stands_in_its_file(self):
        for name, listed in FILES.items():
            for one in listed:
                self.assertEqual(one.__module__, name)


if __name__ == "__main__":
    unittest.main()
