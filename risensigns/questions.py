"""Questions about a book, a lot and a bound, and what all answers have in common."""

from risensigns.books import Book
from risensigns.errors import Beyond, TooLarge, TooLong
from risensigns.growing import Large
from risensigns.leads import Leads
from risensigns.lots import led_to, machine_size, meant_lot
from risensigns.machines import Machine
from risensigns.played import Play
from risensigns.rows import Row
from risensigns.watches import beyond_watch, lot_watch, row_watch, stray_watch
from risensigns.ways import Unwinding, cheapest_way, row_pairs

LARGEST_SIZE = 300
LONGEST_TEXT = 40


class Question:
    """The large machine for a book, a lot and a bound, as they were when it was made."""

    def __init__(self, book, lot, most):
        self.book = Book(*book)
        self.most = most
        self._lot = lot
        self._large = Large(self.book, lot, most)
        self._leads = Leads(self._large)
        signs = self._large.read_signs()
        self._beyond = self._cheapest(beyond_watch(list(self.book), signs, most))

    def least_signs(self):
        """Return the least number of signs of a text that leads beyond the bound, or None."""
        if self._beyond is None:
            return None
        return self._beyond.cost

    def play_beyond(self):
        """Return a play whose last step goes beyond the bound, which must not be enough."""
        text, steps = self._unwound(self._beyond)
        steps.append(self._step_beyond(self._beyond))
        return Play(self.book, text, steps)

    def play_to_row(self, row):
        """Return a play that ends with the row, or None."""
        return self._play_to(row_watch(row))

    def play_into(self, goal):
        """Return a play that ends with a row whose signs are a text of the lot `goal`, or None."""
        return self._play_to(lot_watch(goal, self.most))

    def play_out(self):
        """Return a play that ends with a row whose signs are not a text of the lot, or None."""
        return self._play_to(stray_watch(self._lot, self._large.read_signs(), self.most))

    def row_machine(self):
        """Return the machine that reads the rows that come from the lot."""
        links = [(arc[0], arc[3]) for arc in self._large.arcs]
        leads = [(node, to) for node in range(self._large.nodes) for to, _ in self._leads.basic[node]]
        links.extend(leads)
        numbers = self._kept_nodes(links)
        edges = [(numbers[start], sign, height, numbers[to]) for start, sign, height, to in self._large.arcs
                 if start in numbers and to in numbers]
        free = [(numbers[node], numbers[to]) for node, to in leads if node in numbers and to in numbers]
        return Machine(len(numbers), self._lot.last, edges, free)

    def _kept_nodes(self, links):
        """Return new numbers for the nodes on ways from the node 0 to a last one."""
        begun = led_to([0], links)
        ended = led_to(self._lot.last, [(to, node) for node, to in links])
        # All states of the lot are among them, so they keep their numbers.
        kept = [node for node in range(self._large.nodes) if node in begun and node in ended]
        return {node: number for number, node in enumerate(kept)}

    def _cheapest(self, watch):
        return cheapest_way(self._large, self._leads, watch)

    def _play_to(self, watch):
        way = self._cheapest(watch)
        if way is None:
            return None
        text, steps = self._unwound(way)
        return Play(self.book, text, steps)

    def _unwound(self, way):
        """Return the text and the steps of a play that ends with the row of the way."""
        if way.cost > LONGEST_TEXT:
            raise TooLong(way.cost)
        unwinding = Unwinding(self._large, self._leads, way)
        return unwinding.first_text(), unwinding.steps_found()

    def _step_beyond(self, way):
        """Return a step that goes beyond the bound from the row of the way."""
        pairs = row_pairs(self._large, way)
        row = Row("".join([sign for sign, _ in pairs]), [height for _, height in pairs])
        found = list(self.book.steps(row))
        for number, at in found:
            try:
                self.book.take(row, number, at, most=self.most)
            except Beyond:
                return (number, at)
        return None


def asked(book, lot, most):
    """Return the question about the book, the lot and the bound, if it can be answered."""
    meant = meant_lot(book, lot)
    size = machine_size(book, meant, most=most)
    if size > LARGEST_SIZE:
        raise TooLarge(size)
    return Question(book, meant, most)
