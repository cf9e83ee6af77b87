"""Lots: regular sets of texts, and the size of a question about one."""

from risensigns.checks import GREATEST_BOUND, check_bound, check_text, is_sign
from risensigns.errors import BadLot, Useless

MOST_STATES = 40


class Lot:
    """A set of texts, given by states and moves between them."""

    def __init__(self, states, last, moves):
        _check_states(states, last, moves)
        leads = _leads_of(moves)
        _check_useful(states, last, moves)
        self._states = states
        self._last = sorted(set(last))
        self._moves = sorted(set(moves))
        self._leads = leads

    @classmethod
    def every(cls, signs):
        """Return the lot of all texts over these signs."""
        check_text(signs)
        return cls(1, [0], [(0, sign, 0) for sign in signs])

    @classmethod
    def only(cls, *texts):
        """Return the lot of these texts."""
        if not texts:
            raise BadLot("a lot has at least one text")
        for text in texts:
            check_text(text)
        beginnings = _beginnings_of(texts)
        numbers = {text: number for number, text in enumerate(beginnings)}
        last = [numbers[text] for text in texts]
        moves = [(numbers[text[:-1]], text[-1], numbers[text]) for text in beginnings if text]
        return cls(len(beginnings), last, moves)

    @property
    def states(self):
        """The number of states."""
        return self._states

    @property
    def last(self):
        """The list of the last states, ascending."""
        return list(self._last)

    @property
    def moves(self):
        """The list of the moves `(state, sign, next)`, ascending."""
        return list(self._moves)

    def __contains__(self, text):
        state = 0
        for sign in text:
            # -1 is no state, so nothing leads on from it.
            state = self._leads.get((state, sign), -1)
        return state in self._last


def meant_lot(book, lot):
    """Return the lot that a question is about; None stands for all texts over the book's signs."""
    if lot is None:
        return Lot.every(book.signs)
    return lot


def machine_size(book, lot, *, most):
    """Return the size of the question about the lot within the bound."""
    check_bound(most, GREATEST_BOUND)
    return sum([book.grown(sign, most=most) for _, sign, _ in lot.moves])


def _check_states(states, last, moves):
    """Raise BadLot for a wrong number of states and for a state that is not there."""
    if not 1 <= states <= MOST_STATES:
        raise BadLot("a lot has 1 to 40 states")
    named = list(last)
    for state, _, to in moves:
        named.extend([state, to])
    for state in named:
        if not 0 <= state < states:
            raise BadLot(f"the lot has no state {state}")


def _leads_of(moves):
    """Return where a state and a sign lead; raise BadLot unless the moves tell."""
    leads = {}
    for state, sign, to in moves:
        if not is_sign(sign):
            raise BadLot("the string in a move is exactly one sign")
        if leads.get((state, sign), to) != to:
            raise BadLot("the moves of a state with a sign lead to one state")
        leads[(state, sign)] = to
    return leads


def _check_useful(states, last, moves):
    """Raise Useless with the least useless state, if there is one."""
    begun = led_to([0], [(state, to) for state, _, to in moves])
    ended = led_to(last, [(to, state) for state, _, to in moves])
    for state in range(states):
        if state not in begun or state not in ended:
            raise Useless(state)


def led_to(starts, links):
    """Return a dict of the states that zero or more links lead to from the starts."""
    follows = {}
    for state, to in links:
        follows.setdefault(state, []).append(to)
    reached = {state: True for state in starts}
    waiting = list(starts)
    while waiting:
        state = waiting.pop()
        for to in follows.get(state, []):
            if to not in reached:
                reached[to] = True
                waiting.append(to)
    return reached


def _beginnings_of(texts):
    """Return the different beginnings of the texts, by length and then alphabetically."""
    beginnings = [text[:end] for text in texts for end in range(len(text) + 1)]
    # Sorting by length keeps the alphabetical order among those of one length.
    return sorted(sorted(set(beginnings)), key=len)
