"""Verdicts: whether a bound is enough for the texts of a lot."""

from risensigns.books import Book
from risensigns.checks import GREATEST_BOUND, check_bound
from risensigns.errors import NotEnough
from risensigns.questions import asked


class Verdict:
    """The answer to the question whether a bound is enough; `judge` returns it."""

    def __init__(self, question):
        self._question = question
        self.most = question.most
        self.least = question.least_signs()
        self.enough = self.least is None
        self.machine = None
        if self.enough:
            self.machine = question.row_machine()

    def __bool__(self):
        return bool(self.enough)

    def play(self):
        """Return a play that leads beyond the bound, or None if the bound is enough."""
        if self.enough:
            return None
        return self._question.play_beyond()

    def limit(self, many):
        """Return a limit for the number of steps from a text of the lot with so many signs."""
        if not self.enough:
            raise NotEnough(self.least)
        return self._question.book.limit(many, most=self.most)


def judge(book, *, most, lot=None):
    """Return the verdict whether the bound is enough for the lot."""
    return Verdict(asked(book, lot, most))


def least_enough(book, *, most, lot=None):
    """Return the first bound up to `most` that is enough for the lot, or None."""
    check_bound(most, GREATEST_BOUND)
    for bound in range(most + 1):
        if asked(book, lot, bound).least_signs() is None:
            return bound
    return None


def tried(book, rule, *, most, lot=None):
    """Return the verdict for the book with the rule appended; the book itself stays as it is."""
    return judge(Book(*book, rule), most=most, lot=lot)
