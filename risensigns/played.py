"""Plays: a text and the steps that are performed on it."""

from risensigns.books import Book
from risensigns.checks import check_text
from risensigns.errors import BadPlay, Beyond, Mismatch, NoRule
from risensigns.rows import Row


class Play:
    """A text and a list of steps that can be taken one after the other."""

    def __init__(self, book, text, steps):
        check_text(text)
        self.text = text
        self._book = Book(*book)
        self._steps = list(steps)
        self._end = self._played()

    def __len__(self):
        return len(self._steps)

    def __iter__(self):
        return iter(self._steps)

    def rows(self):
        """Yield the rows from the first to the last one, each a new row."""
        row = Row(self.text)
        yield _copied(row)
        for number, at in self._steps:
            row = self._book.take(row, number, at)
            yield _copied(row)

    def end(self):
        """Return the last row, a new row."""
        return _copied(self._end)

    def _played(self):
        row = Row(self.text)
        for step, (number, at) in enumerate(self._steps):
            try:
                row = self._book.take(row, number, at)
            except (NoRule, Mismatch, Beyond) as why:
                raise BadPlay(step) from why
        return row


def _copied(row):
    return row[0:len(row)]
