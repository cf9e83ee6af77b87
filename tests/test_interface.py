"""The names, arguments and kinds that the interface lists."""

import inspect
import unittest

from risensigns import books, lots, machines, played, reached, rows, verdicts

SIGNATURES = [
    (rows.Row, "(text='', heights=None)"),
    (rows.Row.shown, "(self)"),
    (books.Rule, "(left, right='')"),
    (books.Rule.__call__, "(self, row, at=0)"),
    (books.Book, "(*rules)"),
    (books.Book.read, "(text)"),
    (books.Book.written, "(self)"),
    (books.Book.data, "(self)"),
    (books.Book.add, "(self, rule)"),
    (books.Book.drop, "(self, number)"),
    (books.Book.steps, "(self, row)"),
    (books.Book.take, "(self, row, number, at, *, most=9)"),
    (books.Book.growths, "(self, sign)"),
    (books.Book.grown, "(self, sign, *, most, height=0)"),
    (books.Book.weight, "(self, row, *, most)"),
    (books.Book.limit, "(self, many, *, most)"),
    (books.Trial, "(book, rule)"),
    (lots.Lot, "(states, last, moves)"),
    (lots.Lot.every, "(signs)"),
    (lots.Lot.only, "(*texts)"),
    (lots.machine_size, "(book, lot, *, most)"),
    (machines.Machine, "(states, last, edges, free)"),
    (machines.Machine.edges, "(self)"),
    (machines.Machine.free, "(self)"),
    (machines.Machine.ends, "(self, start, row)"),
    (machines.holds, "(machine, book, *, most, lot=None)"),
    (played.Play, "(book, text, steps)"),
    (played.Play.rows, "(self)"),
    (played.Play.end, "(self)"),
    (verdicts.Verdict.play, "(self)"),
    (verdicts.Verdict.limit, "(self, many)"),
    (verdicts.judge, "(book, *, most, lot=None)"),
    (verdicts.least_enough, "(book, *, most, lot=None)"),
    (verdicts.tried, "(book, rule, *, most, lot=None)"),
    (reached.comes, "(book, lot, *, most)"),
    (reached.history, "(book, lot, row, *, most)"),
    (reached.reaches, "(book, lot, goal, *, most)"),
    (reached.strays, "(book, lot, *, most)"),
]

MEMBERS = {
    rows.Row: ["signs", "heights", "__len__", "__iter__", "__eq__", "__lt__", "__add__", "__rmul__", "__lshift__",
               "__contains__", "__abs__", "__getitem__", "__setitem__", "__iadd__", "shown"],
    books.Rule: ["__call__", "__str__"],
    books.Book: ["signs", "longest", "__len__", "__iter__", "__iadd__", "read", "written", "data", "add", "drop",
                 "steps", "take", "growths", "grown", "weight", "limit"],
    books.Trial: ["__enter__", "__exit__"],
    lots.Lot: ["states", "last", "moves", "__contains__", "every", "only"],
    machines.Machine: ["states", "last", "edges", "free", "ends", "__contains__"],
    played.Play: ["__len__", "__iter__", "rows", "end"],
    verdicts.Verdict: ["play", "limit", "__bool__"],
}

PROPERTIES = [(rows.Row, "signs"), (rows.Row, "heights"), (books.Book, "signs"), (books.Book, "longest"),
              (lots.Lot, "states"), (lots.Lot, "last"), (lots.Lot, "moves"),
              (machines.Machine, "states"), (machines.Machine, "last")]

FILES = {"risensigns.rows": [rows.Row], "risensigns.books": [books.Rule, books.Book, books.Trial],
         "risensigns.lots": [lots.Lot, lots.machine_size],
         "risensigns.machines": [machines.Machine, machines.holds],
         "risensigns.played": [played.Play],
         "risensigns.verdicts": [verdicts.Verdict, verdicts.judge, verdicts.least_enough, verdicts.tried],
         "risensigns.reached": [reached.comes, reached.history, reached.reaches, reached.strays]}


class Interface(unittest.TestCase):
    def test_arguments(self):
        for listed, wanted in SIGNATURES:
            self.assertEqual(str(inspect.signature(listed)), wanted, listed)

    def test_members_stand_in_the_class_itself(self):
        for listed, names in MEMBERS.items():
            for name in names:
                self.assertIn(name, vars(listed))

    def test_properties(self):
        for listed, name in PROPERTIES:
            self.assertIsInstance(vars(listed)[name], property)

    def test_class_methods(self):
        for listed, name in [(books.Book, "read"), (lots.Lot, "every"), (lots.Lot, "only")]:
            self.assertIsInstance(vars(listed)[name], classmethod)

    def test_generators(self):
        for listed in (books.Book.steps, books.Book.growths, machines.Machine.edges, machines.Machine.free,
                       played.Play.rows):
            self.assertTrue(inspect.isgeneratorfunction(listed))

    def test_attributes(self):
        book = books.Book.read("ab:b")
        self.assertEqual(vars(books.Rule("a", "b")), {"left": "a", "right": "b"})
        self.assertEqual(vars(played.Play(book, "ab", []))["text"], "ab")
        for most in (0, 1):
            attributes = vars(verdicts.judge(book, most=most))
            for name in ("enough", "most", "machine", "least"):
                self.assertIn(name, attributes)

    def test_each_stands_in_its_file(self):
        for name, listed in FILES.items():
            for one in listed:
                self.assertEqual(one.__module__, name)


if __name__ == "__main__":
    unittest.main()
