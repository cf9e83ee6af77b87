"""The rows that come from a lot, within a bound that is enough for it."""

from risensigns.errors import NotEnough
from risensigns.questions import asked


def comes(book, lot, *, most):
    """Return a machine that reads exactly the rows that come from the lot."""
    return _answerable(book, lot, most).row_machine()


def history(book, lot, row, *, most):
    """Return a play that ends with the row, or None if the row does not come from the lot."""
    return _answerable(book, lot, most).play_to_row(row)


def reaches(book, lot, goal, *, most):
    """Return a play that ends with the signs of a text of the lot `goal`, or None."""
    return _answerable(book, lot, most).play_into(goal)


def strays(book, lot, *, most):
    """Return a play that ends with signs that are not a text of the lot, or None."""
    return _answerable(book, lot, most).play_out()


def _answerable(book, lot, most):
    """Return the question if the bound is enough."""
    question = asked(book, lot, most)
    least = question.least_signs()
    if least is not None:
        raise NotEnough(least)
    return question
