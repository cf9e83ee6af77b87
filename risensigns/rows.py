"""Rows: texts whose signs bear heights."""

from risensigns.checks import GREATEST_HEIGHT, check_height, check_text, decoded, is_sign
from risensigns.errors import BadHeight, BadSign, NoPlace, Uneven


class Row:
    """A text whose signs bear heights from 0 to 9."""

    def __init__(self, text="", heights=None):
        signs = decoded(text)
        check_text(signs)
        if heights is None:
            heights = [0] * len(signs)
        if len(heights) != len(signs):
            raise Uneven("a row has as many heights as signs")
        for height in heights:
            check_height(height, GREATEST_HEIGHT)
        self._pairs = list(zip(signs, heights))

    @property
    def signs(self):
        """The text, a string."""
        return "".join([sign for sign, _ in self._pairs])

    @property
    def heights(self):
        """The list of the heights."""
        return [height for _, height in self._pairs]

    def __len__(self):
        return len(self._pairs)

    def __iter__(self):
        return iter(self._pairs)

    def __eq__(self, other):
        if not isinstance(other, Row):
            return NotImplemented
        return self._pairs == other._pairs

    def __lt__(self, other):
        if not isinstance(other, Row):
            return NotImplemented
        return self._pairs < other._pairs

    def __add__(self, other):
        return _row_of(self._pairs + other._pairs)

    def __rmul__(self, times):
        return _row_of(times * self._pairs)

    def __lshift__(self, by):
        top = abs(self) + by
        # The empty row has no height that could become too great.
        if self._pairs and top > GREATEST_HEIGHT:
            raise BadHeight(top)
        return _row_of([(sign, height + by) for sign, height in self._pairs])

    def __contains__(self, part):
        if not isinstance(part, Row):
            return part in self.signs
        size = len(part)
        return any([self._pairs[at:at + size] == part._pairs for at in range(len(self) - size + 1)])

    def __abs__(self):
        return max(self.heights, default=0)

    def __getitem__(self, at):
        # What is not an index is a slice.
        if not isinstance(at, int):
            return _row_of(self._pairs[at])
        self._check_place(at)
        return self._pairs[at]

    def __setitem__(self, at, worth):
        if not isinstance(at, int):
            # The row itself may be put into its slice.
            self._pairs[at] = list(worth._pairs)
            return
        self._check_place(at)
        sign, height = worth
        if not is_sign(sign):
            raise BadSign(0)
        check_height(height, GREATEST_HEIGHT)
        self._pairs[at] = (sign, height)

    def __iadd__(self, other):
        self._pairs = self._pairs + other._pairs
        return self

    def shown(self):
        """Return the signs and, below them, their heights, in columns."""
        signs = [f"{sign:>2}" for sign in self.signs]
        heights = [f"{height:>2}" for height in self.heights]
        return "".join(signs) + "\n" + "".join(heights)

    def _check_place(self, at):
        if not 0 <= at < len(self._pairs):
            raise NoPlace(at)


def _row_of(pairs):
    """Return a new row of the pairs."""
    signs = "".join([sign for sign, _ in pairs])
    return Row(signs, [height for _, height in pairs])
