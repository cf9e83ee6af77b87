"""Checks that several modules of the package share."""

from risensigns.errors import BadBound, BadHeight, BadSign

SIGNS = "abcdefghijklmnopqrstuvwxyz"
GREATEST_HEIGHT = 9
# A question looks at the height one above its bound, which must still be a height.
GREATEST_BOUND = 8


def decoded(text):
    """Return the text as a string, also if it is given as bytes."""
    if isinstance(text, bytes):
        return text.decode("ascii")
    return text


def is_sign(text):
    """Tell whether the string is exactly one sign."""
    return len(text) == 1 and text in SIGNS


def check_text(text):
    """Raise BadSign unless the string is a text."""
    for at, sign in enumerate(text):
        if sign not in SIGNS:
            raise BadSign(at)


def check_height(height, greatest):
    """Raise BadHeight unless the height is from 0 to the greatest one."""
    if not 0 <= height <= greatest:
        raise BadHeight(height)


def check_bound(most, greatest):
    """Raise BadBound unless the bound is from 0 to the greatest one."""
    if not 0 <= most <= greatest:
        raise BadBound(most)
