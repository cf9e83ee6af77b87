"""The large machine of a question: arcs that grow, and the nodes between them."""


class Growth:
    """The growth of an arc by a rule that has the arc's sign at the index `at` of its left side."""

    def __init__(self, number, at, arc, height, left):
        self.number = number
        self.at = at
        self.arc = arc
        self.height = height
        self.left = left
        # Nodes that stand for the beginnings and ends of the left side, outwards from the arc.
        self.before = []
        self.behind = []
        # The arcs that read the right side.
        self.chain = []


class Large:
    """The nodes, the arcs `(start, sign, height, to)` and the growths for a lot within a bound."""

    def __init__(self, book, lot, most):
        self._book = book
        self._rules = list(book)
        self._most = most
        self.nodes = lot.states
        self.last_nodes = lot.last
        self.arcs = []
        self.costs = []
        self.makers = []
        self.made = []
        for state, sign, to in lot.moves:
            self._add_arc((state, sign, 0, to), 1, None)
        arc = 0
        while arc < len(self.arcs):
            self._grow(arc)
            arc = arc + 1

    def read_signs(self):
        """Return the signs that the arcs read."""
        return sorted({arc[1] for arc in self.arcs})

    def _add_arc(self, arc, cost, maker):
        """Append an arc that the growth `maker` made, or that is a move of the lot."""
        self.arcs.append(arc)
        self.costs.append(cost)
        self.makers.append(maker)

    def _add_nodes(self, many):
        added = list(range(self.nodes, self.nodes + many))
        self.nodes = self.nodes + many
        return added

    def _grow(self, arc):
        _, sign, height, _ = self.arcs[arc]
        found = list(self._book.growths(sign))
        for number, at in found:
            # A growth with signs must not write a height above the bound.
            if height < self._most or not self._rules[number].right:
                self._add_growth(number, at, arc)

    def _add_growth(self, number, at, arc):
        start, _, height, to = self.arcs[arc]
        rule = self._rules[number]
        growth = Growth(number, at, arc, height, rule.left)
        growth.before = [start] + self._add_nodes(at)
        growth.behind = [to] + self._add_nodes(len(rule.left) - 1 - at)
        if rule.right:
            self._add_chain(growth, rule.right)
        self.made.append(growth)

    def _add_chain(self, growth, right):
        inner = self._add_nodes(len(right) - 1)
        stops = [growth.before[-1]] + inner + [growth.behind[-1]]
        # The first new arc takes over the whole cost of the arc that grows.
        cost = self.costs[growth.arc]
        for at, sign in enumerate(right):
            growth.chain.append(len(self.arcs))
            self._add_arc((stops[at], sign, growth.height + 1, stops[at + 1]), cost, growth)
            cost = 0
