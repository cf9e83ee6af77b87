"""What the tests share."""

import random
import unittest

from risensigns import errors
from risensigns.books import Book, Rule
from risensigns.errors import BadLot
from risensigns.lots import Lot, machine_size
from risensigns.rows import Row

ATTRIBUTES = {
    "BadSign": "at", "NoPlace": "at", "Mismatch": "at",
    "BadHeight": "height", "Beyond": "height",
    "NoRule": "number", "BadLine": "line", "BadPlay": "step", "BadBound": "most",
    "TooLarge": "size", "NotEnough": "least", "TooLong": "least", "Useless": "state",
    "Uneven": None, "BadRule": None, "BookFull": None, "BadLot": None,
}


class Case(unittest.TestCase):
    def fault(self, kind, *wanted):
        """Return a caller that checks that its call raises this very error."""
        def call(function, *rest, **more):
            with self.assertRaises(ValueError) as caught:
                function(*rest, **more)
            error = caught.exception
            self.assertIs(type(error), kind)
            attribute = ATTRIBUTES[kind.__name__]
            if attribute is None:
                self.assertEqual(wanted, ())
                self.assertEqual(vars(error), {})
            else:
                self.assertEqual(vars(error), {attribute: wanted[0]})
                self.assertIs(type(getattr(error, attribute)), int)
            return error
        return call

    def same_rows(self, row, text, heights):
        """Check the signs and heights of a row."""
        self.assertEqual((row.signs, row.heights), (text, heights))

    def walk(self, play, book):
        """Check a play step by step with the book, and return its rows as lists of pairs."""
        row = Row(play.text)
        walked = [list(row)]
        for step in play:
            self.assertIs(type(step), tuple)
            row = book.take(row, *step)
            walked.append(list(row))
        self.assertEqual([list(row) for row in play.rows()], walked)
        self.assertEqual(list(play.end()), walked[-1])
        self.assertEqual(len(play), len(walked) - 1)
        return walked


def error_class(name):
    return getattr(errors, name)


def greatest(pairs):
    """The greatest height among the pairs, and 0 if there are none."""
    return max([height for _, height in pairs], default=0)


def row_of(pairs):
    return Row("".join(sign for sign, _ in pairs), [height for _, height in pairs])


def texts_of(lot, size):
    """Yield the texts of the lot with up to `size` signs, the short ones first."""
    begun = [("", 0)]
    for _ in range(size + 1):
        for text, state in begun:
            if state in lot.last:
                yield text
        begun = [(text + sign, to) for text, state in begun for start, sign, to in lot.moves if start == state]


class Steps:
    """The rows that come from the texts of a lot with up to `size` signs, found step by step.

    `rows` tells for each row, a tuple of pairs, the least number of signs of a text from which it
    comes; `least` is the least number of signs of a text from which steps lead beyond the bound,
    or None. If the steps from some text lead to too many rows, `whole` is False.
    """

    def __init__(self, book, lot, most, size, cap=1500):
        self.rules = [(rule.left, rule.right) for rule in book]
        self.most = most
        self.rows = {}
        self.least = None
        self.whole = True
        for text in texts_of(lot, size):
            self.follow(text, cap)

    def follow(self, text, cap):
        first = tuple((sign, 0) for sign in text)
        seen = {first}
        waiting = [first]
        while waiting and len(seen) < cap:
            for row in self.after(waiting.pop(), len(text)):
                if row not in seen:
                    seen.add(row)
                    waiting.append(row)
        self.whole = self.whole and not waiting
        for row in seen:
            self.rows.setdefault(row, len(text))

    def after(self, row, size):
        """Yield the rows one step behind the row."""
        for left, right in self.rules:
            for at in range(len(row) - len(left) + 1):
                replaced = row[at:at + len(left)]
                if "".join(sign for sign, _ in replaced) == left:
                    height = 1 + min(height for _, height in replaced)
                    if not right or height <= self.most:
                        yield row[:at] + tuple((sign, height) for sign in right) + row[at + len(left):]
                    elif self.least is None:
                        self.least = size

    def least_where(self, wanted):
        """The least number of signs of a text from which a wanted row comes, or None."""
        return min([size for row, size in self.rows.items() if wanted(row)], default=None)


def signs_of(row):
    return "".join(sign for sign, _ in row)


def some_lot(chance, signs):
    """A lot over the signs, made by chance."""
    while True:
        states = chance.randint(1, 4)
        leads = {}
        for _ in range(chance.randint(0, 6)):
            leads[(chance.randrange(states), chance.choice(signs))] = chance.randrange(states)
        last = [chance.randrange(states) for _ in range(chance.randint(1, 2))]
        try:
            return Lot(states, last, [(state, sign, to) for (state, sign), to in leads.items()])
        except BadLot:
            continue


def some_word(chance, signs, sizes):
    return "".join(chance.choice(signs) for _ in range(chance.choice(sizes)))


def some_rule(chance, signs):
    left = some_word(chance, signs, [1, 2, 2, 2, 3, 3, 4])
    return Rule(left, some_word(chance, signs, [0, 0, 1, 1, 2, 3]))


def some_question(seed):
    """A book, a lot (or None) and a bound, made by chance, whose size is allowed."""
    chance = random.Random(seed)
    signs = "abc"[:chance.randint(1, 3)]
    while True:
        book = Book(*[some_rule(chance, signs) for _ in range(chance.randint(0, 4))])
        most = chance.choice([0, 0, 1, 1, 2, 2, 3, 4])
        lot = chance.choice([None, some_lot(chance, signs),
                             Lot.only(*[some_word(chance, signs, [0, 1, 2, 3, 4]) for _ in range(3)])])
        if machine_size(book, lot or Lot.every(book.signs), most=most) <= 300:
            return book, lot, most


def copy_of(book):
    """The rules of the book as they are now, to compare them later."""
    return [(rule.left, rule.right) for rule in book]


def parts_of(lot):
    return (lot.states, lot.last, lot.moves)


def parts_of_machine(machine):
    """All that a machine tells of itself."""
    return (machine.states, machine.last, list(machine.edges()), list(machine.free()))


def ring(states, signs, extra=()):
    """A lot that reads the signs from each state to the next one, in a circle, and the extra moves."""
    moves = [(state, sign, (state + 1) % states) for state in range(states) for sign in signs]
    return Lot(states, [0], moves + list(extra))


# Sizes of questions about the book without rules: each move has the size 1.
SIZE_300 = ring(12, "abcdefghijklmnopqrstuvwxy")
SIZE_301 = ring(12, "abcdefghijklmnopqrstuvwxy", [(0, "z", 0)])

# The texts are `a` and 39 times `a`, then `b` (40 signs), and longer ones.
LONG_40 = Lot(40, [1], [(state, "a", state + 1) for state in range(39)] + [(39, "b", 1)])
# The texts are `aa` and 39 times `a`, then `ba` (41 signs), and longer ones.
LONG_41 = Lot(40, [2], [(state, "a", state + 1) for state in range(39)] + [(39, "b", 1)])
