"""Machines that read rows, and whether one holds a book."""

from risensigns.checks import GREATEST_BOUND, GREATEST_HEIGHT, check_bound
from risensigns.lots import meant_lot
from risensigns.rows import Row


class Machine:
    """States, edges that read a sign with a height, and free moves that read nothing.

    A number stands for a set of states: the bit of a state is 1 if the state is in the set.
    """

    def __init__(self, states, last, edges, free):
        self._states = states
        self._last = sorted(set(last))
        self._edges = sorted(set(edges))
        self._free = sorted({(state, to) for state, to in free if state != to})
        self._closures = _closures_of(self._free)
        self._reads = self._reads_of_edges()
        self._final = sum([1 << state for state in self._last])

    @property
    def states(self):
        """The number of states."""
        return self._states

    @property
    def last(self):
        """The list of the last states, ascending."""
        return list(self._last)

    def edges(self):
        """Yield the edges `(state, sign, height, next)`, ascending."""
        yield from self._edges

    def free(self):
        """Yield the free moves `(state, next)` between different states, ascending."""
        yield from self._free

    def ends(self, start, row):
        """Return the states, ascending, to which a way from the start reads the row."""
        return _listed(self._after_row(start, row))

    def __contains__(self, part):
        if isinstance(part, Row):
            return self._after_row(0, part) & self._final != 0
        return self._after_signs(0, part) & self._final != 0

    def _closed(self, state):
        """Return the set of the states to which free moves lead from the state."""
        return self._closures.get(state, 1 << state)

    def _reads_of_edges(self):
        """Return, by sign and then by height, the edges as pairs of a state and the set behind it."""
        reads = {}
        for state, sign, height, to in self._edges:
            pairs = reads.setdefault(sign, {}).setdefault(height, [])
            pairs.append((1 << state, self._closed(to)))
        return reads

    def _after_row(self, start, row):
        found = self._closed(start)
        for sign, height in row:
            found = _after_pairs(found, self._reads.get(sign, {}).get(height, []))
        return found

    def _after_signs(self, start, signs):
        found = self._closed(start)
        for sign in signs:
            by_height = self._reads.get(sign, {})
            found = _after_pairs(found, [pair for pairs in by_height.values() for pair in pairs])
        return found

    def _after_left(self, start, left):
        """Return where ways that read the left side end, by the least height of each way."""
        found = {GREATEST_HEIGHT: self._closed(start)}
        for sign in left:
            longer = {}
            for least, before in found.items():
                for height, pairs in self._reads.get(sign, {}).items():
                    after = _after_pairs(before, pairs)
                    if after:
                        lower = min(least, height)
                        longer[lower] = longer.get(lower, 0) | after
            found = longer
        return found


def holds(machine, book, *, most, lot=None):
    """Tell whether the machine holds the book for the lot and the bound."""
    check_bound(most, GREATEST_BOUND)
    if not _has_lot(machine, meant_lot(book, lot)):
        return False
    return all([_has_rule(machine, rule, most) for rule in book])


def _has_lot(machine, lot):
    if machine.states < lot.states or machine.last != lot.last:
        return False
    edges = {edge: True for edge in machine.edges()}
    return all([(state, sign, 0, to) in edges for state, sign, to in lot.moves])


def _has_rule(machine, rule, most):
    # Free moves before the first edge can stand before the right side as well,
    # so it is enough to look at the ways that begin with an edge.
    starts = sorted({edge[0] for edge in machine.edges() if edge[1] == rule.left[0]})
    return all([_has_step(machine, rule, start, most) for start in starts])


def _has_step(machine, rule, start, most):
    """Tell whether the right side is read wherever the left side is read from the start."""
    for least, found in machine._after_left(start, rule.left).items():
        if rule.right and least >= most:
            return False
        replaced = [(sign, least + 1) for sign in rule.right]
        if found & ~machine._after_row(start, replaced):
            return False
    return True


def _after_pairs(found, pairs):
    after = 0
    for state, closed in pairs:
        if found & state:
            after = after | closed
    return after


def _listed(found):
    """Return the list of the states in the set."""
    states = []
    while found:
        lowest = found & -found
        states.append(lowest.bit_length() - 1)
        found = found ^ lowest
    return states


def _closures_of(free):
    """Return, for each state with a free move, the set of the states to which free moves lead."""
    closures = {state: 1 << state for state, _ in free}
    for state, to in free:
        closures[state] = closures[state] | 1 << to
    states = list(closures)
    # After each turn the closures count all ways whose inner states were `middle` by then.
    for middle in states:
        for state in states:
            if closures[state] >> middle & 1:
                closures[state] = closures[state] | closures[middle]
    return closures
