"""Ways through a large machine, and plays that are found backwards along them."""

from heapq import heappop, heappush


class Way:
    """A sequence of arcs, given by their numbers, and basic leads, given as pairs of nodes."""

    def __init__(self, cost, parts):
        self.cost = cost
        self.parts = parts


def cheapest_way(large, leads, watch):
    """Return the cheapest way from the node 0 to a last node that the watch accepts, or None."""
    begun = _arcs_by_start(large)
    costs = {(0, 0): 0}
    came = {}
    queue = [(0, 0, 0)]
    while queue:
        cost, node, state = heappop(queue)
        if node in large.last_nodes and state in watch.accepted:
            return Way(cost, _parts_to(came, (node, state)))
        # A dearer entry of a place that was already left.
        if cost > costs[(node, state)]:
            continue
        for more, to, part in _onward(large, leads, begun, watch, node, state):
            if to not in costs or cost + more < costs[to]:
                costs[to] = cost + more
                came[to] = (node, state, part)
                heappush(queue, (cost + more, to[0], to[1]))
    return None


def row_pairs(large, way):
    """Return the signs and the heights that the way reads, as pairs."""
    return [(large.arcs[part][1], large.arcs[part][2]) for part in way.parts if isinstance(part, int)]


class Unwinding:
    """The search for a text and the steps that lead from it to the row of a way.

    The parts of the way up to some place are in `_passed`; they contain no whole growth. The parts
    behind it are in `_ahead`, the last one first.
    """

    def __init__(self, large, leads, way):
        self._large = large
        self._leads = leads
        self._passed = []
        self._ahead = way.parts[::-1]
        self._arcs_passed = 0
        self._steps_back = []
        while self._ahead:
            self._pass_on()

    def first_text(self):
        """Return the text that is left when all growths are taken back."""
        return "".join([self._large.arcs[arc][1] for arc in self._passed])

    def steps_found(self):
        """Return the steps from the text to the row."""
        return self._steps_back[::-1]

    def _pass_on(self):
        part = self._ahead.pop()
        self._passed.append(part)
        if isinstance(part, int):
            self._arcs_passed = self._arcs_passed + 1
            growth = self._large.makers[part]
            if growth is not None and self._passed[-len(growth.chain):] == growth.chain:
                self._take_back(growth, len(growth.chain))
        else:
            growth = self._leads.vanished(part)
            if growth is not None:
                self._take_back(growth, 1)

    def _take_back(self, growth, many):
        """Put the left side in place of the last passed parts, which stand for the right side."""
        del self._passed[-many:]
        self._arcs_passed = self._arcs_passed - len(growth.chain)
        before = self._parts_before(growth)
        behind = self._parts_behind(growth)
        self._ahead.extend(behind[::-1])
        self._ahead.append(growth.arc)
        self._ahead.extend(before[::-1])
        self._steps_back.append((growth.number, self._arcs_passed))

    def _parts_before(self, growth):
        """Return what stands for the left side before the arc that grows."""
        if growth.at == 0:
            return []
        parts = [self._passed.pop()]
        for away in range(growth.at, 0, -1):
            # The last part leads to this node of the growth.
            arc = self._leads.arc_beside(parts.pop())
            parts.append(arc)
            parts.extend(self._leads.path(self._large.arcs[arc][3], growth.before[away - 1]))
        return parts

    def _parts_behind(self, growth):
        """Return what stands for the left side behind the arc that grows."""
        if len(growth.behind) == 1:
            return []
        # Collected from the outer end.
        parts = [self._ahead.pop()]
        for away in range(len(growth.behind) - 1, 0, -1):
            # The last part leads away from this node of the growth.
            arc = self._leads.arc_beside(parts.pop())
            parts.append(arc)
            inner = self._leads.path(growth.behind[away - 1], self._large.arcs[arc][0])
            parts.extend(inner[::-1])
        return parts[::-1]


def _arcs_by_start(large):
    begun = [[] for _ in range(large.nodes)]
    for number, arc in enumerate(large.arcs):
        begun[arc[0]].append(number)
    return begun


def _onward(large, leads, begun, watch, node, state):
    """Return the cost, the place behind and the part for each part that can come next."""
    found = [(cost, (to, state), (node, to)) for to, cost in leads.basic[node]]
    for number in begun[node]:
        _, sign, height, to = large.arcs[number]
        for after in watch.follows.get((state, sign, height), []):
            found.append((large.costs[number], (to, after), number))
    return found


def _parts_to(came, place):
    """Return the parts of the way on which the place was first reached at its least cost."""
    parts = []
    while place in came:
        node, state, part = came[place]
        parts.append(part)
        place = (node, state)
    return parts[::-1]
