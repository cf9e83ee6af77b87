"""The free leads of a large machine: from where to where a row is read that vanished."""

from heapq import heappop, heappush

# How a lead was found: joined at a node, by a growth without signs, or by an arc beside a growth.
JOINED = 0
VANISHED = 1
BESIDE = 2


class Leads:
    """The leads between different nodes, each with its least cost and how it was first found.

    A lead that is not joined from others is called basic; all leads are sequences of basic ones.
    """

    def __init__(self, large):
        self._large = large
        # By node and sign: the arcs that begin or end there.
        self._begun = {}
        self._ended = {}
        # By node: what is needed to extend a lead that ends or begins there.
        self._needs_before = {}
        self._needs_behind = {}
        self._queue = []
        self._offered = {}
        self._found = {}
        # By node: the leads that end there, and the basic leads that begin there.
        self._ending = [[] for _ in range(large.nodes)]
        self.basic = [[] for _ in range(large.nodes)]
        self._sort_arcs()
        self._sort_needs()
        self._begin()
        self._settle()

    def path(self, start, end):
        """Return the basic leads that make up the lead from the start to the end."""
        parts = []
        while start != end:
            kind, number = self._found[(start, end)]
            middle = start
            if kind == JOINED:
                middle = number
            parts.append((middle, end))
            end = middle
        return parts[::-1]

    def arc_beside(self, lead):
        """Return the arc of a basic lead that was made beside a growth."""
        return self._found[lead][1]

    def vanished(self, lead):
        """Return the growth without signs that a basic lead stands for, or None."""
        kind, number = self._found[lead]
        if kind == VANISHED:
            return self._large.made[number]
        return None

    def _sort_arcs(self):
        for number, (start, sign, _, to) in enumerate(self._large.arcs):
            self._begun.setdefault((start, sign), []).append(number)
            self._ended.setdefault((to, sign), []).append(number)

    def _sort_needs(self):
        for growth in self._large.made:
            for away in range(1, len(growth.before)):
                need = (growth.left[growth.at - away], growth.height, growth.before[away])
                self._needs_before.setdefault(growth.before[away - 1], []).append(need)
            for away in range(1, len(growth.behind)):
                need = (growth.left[growth.at + away], growth.height, growth.behind[away])
                self._needs_behind.setdefault(growth.behind[away - 1], []).append(need)

    def _begin(self):
        for number, growth in enumerate(self._large.made):
            if not growth.chain:
                cost = self._large.costs[growth.arc]
                self._offer(cost, growth.before[-1], growth.behind[-1], (VANISHED, number))
        for node in range(self._large.nodes):
            self._extend(0, node, node)

    def _settle(self):
        """Find the leads in ascending order of their costs."""
        while self._queue:
            cost, start, end, how = heappop(self._queue)
            if (start, end) not in self._found:
                self._found[(start, end)] = how
                self._extend(cost, start, end)
                self._join(cost, start, end, how[0] != JOINED)

    def _offer(self, cost, start, end, how):
        """Put a lead into the queue unless it is known at that cost."""
        if start == end:
            return
        known = self._offered.get((start, end))
        if known is None or cost < known:
            self._offered[(start, end)] = cost
            heappush(self._queue, (cost, start, end, how))

    def _extend(self, cost, start, end):
        """Offer the leads that an arc beside a growth makes out of this one."""
        arcs = self._large.arcs
        costs = self._large.costs
        for sign, height, node in self._needs_before.get(end, []):
            for arc in self._ended.get((start, sign), []):
                if arcs[arc][2] >= height:
                    self._offer(cost + costs[arc], arcs[arc][0], node, (BESIDE, arc))
        for sign, height, node in self._needs_behind.get(start, []):
            for arc in self._begun.get((end, sign), []):
                if arcs[arc][2] >= height:
                    self._offer(cost + costs[arc], node, arcs[arc][3], (BESIDE, arc))

    def _join(self, cost, start, end, is_basic):
        """Offer the leads that are joined from this one and one more.

        It is enough that the second one of the two is basic.
        """
        for to, more in self.basic[end]:
            self._offer(cost + more, start, to, (JOINED, end))
        if is_basic:
            for node, less in self._ending[start]:
                self._offer(less + cost, node, end, (JOINED, start))
            self.basic[start].append((end, cost))
        self._ending[end].append((start, cost))
