"""Machines that hold a book (points 2 and 17)."""

import random
import unittest

from risensigns.books import Book
from risensigns.errors import BadBound
from risensigns.lots import Lot
from risensigns.machines import Machine, holds
from risensigns.verdicts import judge
from tests.helping import Case, copy_of, parts_of, parts_of_machine, some_question


def ways_from(machine, start, size):
    """Yield the state and the row behind each way from the start that reads up to `size` signs."""
    edges, free = list(machine.edges()), list(machine.free())
    seen = {(start, ())}
    waiting = [(start, ())]
    while waiting:
        state, row = waiting.pop()
        yield state, row
        after = [(to, row) for source, to in free if source == state]
        if len(row) < size:
            after += [(to, row + ((sign, height),)) for source, sign, height, to in edges if source == state]
        for place in after:
            if place not in seen:
                seen.add(place)
                waiting.append(place)


def holds_slowly(machine, book, most, lot):
    """Tell whether the machine holds the book, in the words of point 17."""
    edges = list(machine.edges())
    if machine.states < lot.states or machine.last != lot.last:
        return False
    if not all((state, sign, 0, to) in edges for state, sign, to in lot.moves):
        return False
    for start in range(machine.states):
        read = set(ways_from(machine, start, 4))
        for rule in book:
            for end, row in read:
                if "".join(sign for sign, _ in row) == rule.left:
                    least = min(height for _, height in row)
                    if rule.right and least >= most:
                        return False
                    if (end, tuple((sign, least + 1) for sign in rule.right)) not in read:
                        return False
    return True


class HeldBook(Case):
    """A machine made by hand that holds the book `ab:b` for the lot `a*b` within the bound 1."""

    def setUp(self):
        self.book = Book.read("ab:b")
        self.lot = Lot(2, [1], [(0, "a", 0), (0, "b", 1)])
        self.edges = [(0, "a", 0, 0), (0, "b", 0, 1), (0, "b", 1, 1)]

    def held(self, machine, most=1):
        answer = holds(machine, self.book, most=most, lot=self.lot)
        self.assertIs(type(answer), bool)
        return answer

    def test_held(self):
        self.assertIs(self.held(Machine(2, [1], self.edges, [])), True)
        self.assertIs(self.held(Machine(2, [1], self.edges, []), most=8), True)

    def test_an_edge_less(self):
        for edge in self.edges:
            fewer = [other for other in self.edges if other != edge]
            self.assertIs(self.held(Machine(2, [1], fewer, [])), False)

    def test_a_last_state_less_or_more(self):
        for last in ([], [0], [0, 1]):
            self.assertIs(self.held(Machine(2, last, self.edges, [])), False)
        self.assertIs(self.held(Machine(3, [1, 2], self.edges, [])), False)

    def test_an_edge_more(self):
        for edge, wanted in (((0, "c", 0, 1), True), ((1, "a", 0, 0), False), ((0, "a", 1, 0), False),
                             ((0, "b", 2, 1), True), ((1, "b", 0, 1), True), ((0, "a", 0, 1), True)):
            self.assertIs(self.held(Machine(2, [1], [*self.edges, edge], [])), wanted)
        # Now `ab` is read with the heights 1 and 1, too.
        self.assertIs(self.held(Machine(2, [1], [*self.edges, (0, "a", 1, 0)], []), most=2), False)
        more = [*self.edges, (0, "a", 1, 0), (0, "b", 2, 1)]
        self.assertIs(self.held(Machine(2, [1], more, []), most=2), True)
        self.assertIs(self.held(Machine(2, [1], more, []), most=1), False)

    def test_free_moves(self):
        self.assertIs(self.held(Machine(2, [1], self.edges, [(0, 0)])), True)
        # A free move from 1 to 0 makes new ways, but each `ab` still ends where a `b` ends.
        self.assertIs(self.held(Machine(2, [1], self.edges, [(1, 0)])), True)
        self.assertIs(self.held(Machine(3, [1], [*self.edges, (2, "b", 0, 1)], [(0, 2)])), True)
        self.assertIs(self.held(Machine(3, [1], [*self.edges, (2, "b", 0, 2)], [(0, 2)])), False)

    def test_the_edge_of_a_move_itself(self):
        # Ways with free moves read the same rows, but the edge itself is missing.
        edges = [(0, "a", 0, 0), (0, "b", 0, 2), (0, "b", 1, 2)]
        self.assertIs(self.held(Machine(3, [1], edges, [(2, 1)])), False)
        self.assertIs(self.held(Machine(3, [1], [*edges, (0, "b", 0, 1)], [(2, 1)])), True)

    def test_too_few_states(self):
        lot = Lot(3, [0], [(0, "a", 1), (1, "a", 2), (2, "a", 0)])
        edges = [(0, "a", 0, 1), (1, "a", 0, 2), (2, "a", 0, 0)]
        self.assertIs(holds(Machine(3, [0], edges, []), Book(), most=0, lot=lot), True)
        self.assertIs(holds(Machine(4, [0], edges, []), Book(), most=0, lot=lot), True)
        self.assertIs(holds(Machine(2, [0], edges[:1], []), Book(), most=0, lot=lot), False)
        self.assertIs(holds(Machine(1, [0], [(0, "a", 0, 0)], []), Book(), most=0, lot=Lot.every("a")), True)
        self.assertIs(holds(Machine(1, [0], [], []), Book(), most=0, lot=Lot.only("")), True)

    def test_nothing_is_changed(self):
        machine = Machine(2, [1], self.edges, [(1, 1)])
        before = (copy_of(self.book), parts_of(self.lot), parts_of_machine(machine))
        self.held(machine)
        self.held(machine, most=0)
        self.fault(BadBound, 9)(holds, machine, self.book, most=9, lot=self.lot)
        self.assertEqual((copy_of(self.book), parts_of(self.lot), parts_of_machine(machine)), before)

    def test_after_a_change_of_the_book(self):
        machine = Machine(2, [1], self.edges, [])
        rule = self.book.drop(0)
        self.assertIs(self.held(Machine(2, [1], self.edges[:2], [])), True)
        self.book.add(rule)
        self.assertIs(self.held(Machine(2, [1], self.edges[:2], [])), False)
        self.assertIs(self.held(machine), True)


class Conditions(Case):
    EMPTY = Lot.only("")

    def held(self, form, edges, free, most, states=9):
        machine = Machine(states, [0], edges, free)
        answer = holds(machine, Book.read(form), most=most, lot=self.EMPTY)
        self.assertIs(answer, holds_slowly(machine, Book.read(form), most, self.EMPTY))
        return answer

    def test_states_that_no_way_reaches(self):
        self.assertIs(self.held("ab:c", [(5, "a", 0, 6), (6, "b", 0, 7)], [], 3), False)
        self.assertIs(self.held("ab:c", [(5, "a", 0, 6), (6, "b", 0, 7), (5, "c", 1, 7)], [], 3), True)
        self.assertIs(self.held("a:", [(7, "a", 0, 8)], [], 0), False)
        self.assertIs(self.held("a:", [(7, "a", 0, 8)], [(7, 8)], 0), True)

    def test_left_side_through_free_moves(self):
        edges = [(1, "a", 0, 2), (4, "b", 0, 5)]
        self.assertIs(self.held("ab:c", edges, [], 1), True)
        self.assertIs(self.held("ab:c", edges, [(2, 3), (3, 4)], 1), False)
        self.assertIs(self.held("ab:c", [*edges, (1, "c", 1, 5)], [(2, 3), (3, 4)], 1), True)
        self.assertIs(self.held("ab:c", edges, [(2, 3), (4, 3)], 1), True)

    def test_free_moves_around_the_sides(self):
        edges = [(1, "a", 0, 2), (1, "c", 1, 2)]
        self.assertIs(self.held("a:c", edges, [(0, 1), (2, 3)], 1), True)
        self.assertIs(self.held("a:c", [(1, "a", 0, 2), (4, "c", 1, 5)], [(1, 4), (5, 2)], 1), True)
        self.assertIs(self.held("a:c", [(1, "a", 0, 2), (4, "c", 1, 5)], [(4, 1), (5, 2)], 1), False)
        self.assertIs(self.held("a:cd", [(1, "a", 0, 2), (1, "c", 1, 5), (6, "d", 1, 2)], [(5, 6)], 1), True)
        self.assertIs(self.held("a:cd", [(1, "a", 0, 2), (1, "c", 1, 5), (6, "d", 1, 2)], [(6, 5)], 1), False)
        self.assertIs(self.held("a:", [(1, "a", 0, 2)], [(1, 7), (7, 8), (8, 2)], 0), True)

    def test_each_single_way_has_its_least_height(self):
        several = [(1, "a", 0, 2), (1, "a", 2, 2), (2, "b", 1, 3), (2, "b", 3, 3)]
        reads = [(1, "c", height, 3) for height in (1, 2, 3)]
        self.assertIs(self.held("ab:c", [*several, *reads], [], 3), True)
        for read in reads:
            fewer = [other for other in reads if other != read]
            self.assertIs(self.held("ab:c", [*several, *fewer], [], 3), False)
        # The greatest of the least heights is 2, so it needs the bound 3.
        self.assertIs(self.held("ab:c", [*several, *reads], [], 2), False)

    def test_ways_to_several_states(self):
        edges = [(1, "a", 0, 2), (1, "a", 0, 3), (1, "b", 1, 2)]
        self.assertIs(self.held("a:b", edges, [], 1), False)
        self.assertIs(self.held("a:b", [*edges, (1, "b", 1, 3)], [], 1), True)

    def test_all_new_heights_are_alike(self):
        edges = [(1, "a", 1, 2), (1, "c", 2, 3), (3, "c", 2, 2)]
        self.assertIs(self.held("a:cc", edges, [], 2), True)
        self.assertIs(self.held("a:cc", [(1, "a", 1, 2), (1, "c", 2, 3), (3, "c", 1, 2)], [], 2), False)
        self.assertIs(self.held("a:cc", [(1, "a", 1, 2), (1, "c", 1, 3), (3, "c", 1, 2)], [], 2), False)

    def test_heights_above_the_bound(self):
        high = [(1, "a", 7, 2), (2, "b", 1, 3)]
        self.assertIs(self.held("ab:c", [*high, (1, "c", 2, 3)], [], 2), True)
        self.assertIs(self.held("ab:c", [*high, (1, "c", 2, 3)], [], 1), False)
        self.assertIs(self.held("ab:c", [*high, (1, "c", 8, 3)], [], 8), False)
        self.assertIs(self.held("ab:", high, [(1, 3)], 0), True)
        self.assertIs(self.held("ab:", [(1, "a", 9, 2), (2, "b", 9, 3)], [(1, 3)], 0), True)
        self.assertIs(self.held("ab:", [(1, "a", 9, 2), (2, "b", 9, 3)], [], 8), False)
        self.assertIs(self.held("a:c", [(1, "a", 9, 2)], [], 8), False)
        self.assertIs(self.held("a:c", [(1, "a", 8, 2), (1, "c", 9, 2)], [], 8), False)
        self.assertIs(self.held("a:c", [(1, "a", 7, 2), (1, "c", 8, 2)], [], 8), True)
        self.assertIs(self.held("a:c", [(1, "d", 9, 2)], [], 0), True)

    def test_empty_right_sides(self):
        self.assertIs(self.held("ab:", [(1, "a", 0, 2), (2, "b", 0, 1)], [], 0), True)
        self.assertIs(self.held("ab:", [(1, "a", 0, 2), (2, "b", 0, 3)], [], 0), False)
        self.assertIs(self.held("ab:", [(1, "a", 0, 2), (2, "b", 0, 3)], [(3, 1)], 0), False)
        self.assertIs(self.held("ab:", [(1, "a", 0, 2), (2, "b", 0, 3)], [(1, 3)], 0), True)

    def test_bound_0(self):
        self.assertIs(self.held("a:b", [(1, "a", 0, 2), (1, "b", 1, 2)], [], 0), False)
        self.assertIs(self.held("a:b", [(1, "a", 0, 2), (1, "b", 1, 2)], [], 1), True)
        self.assertIs(self.held("a:", [(1, "a", 0, 2)], [(1, 2)], 0), True)
        self.assertIs(self.held("", [(1, "a", 0, 2)], [(1, 2)], 0), True)

    def test_left_side_longer_than_two(self):
        edges = [(1, "a", 3, 2), (2, "b", 2, 3), (3, "c", 1, 4), (4, "d", 2, 5), (1, "e", 2, 5)]
        self.assertIs(self.held("abcd:e", edges, [], 2), True)
        self.assertIs(self.held("abcd:e", edges[:-1], [], 2), False)
        self.assertIs(self.held("abcd:e", edges, [], 1), False)
        self.assertIs(self.held("abc:e", edges, [], 2), False)

    def test_rules_all_count(self):
        edges = [(1, "a", 0, 2), (1, "b", 1, 2)]
        self.assertIs(self.held("a:b\nx:y", edges, [], 1), True)
        self.assertIs(self.held("x:y\na:b", edges, [], 1), True)
        self.assertIs(self.held("a:b\na:c", edges, [], 1), False)
        self.assertIs(self.held("a:c\na:b", edges, [], 1), False)
        self.assertIs(self.held("a:b\nb:a", edges, [], 1), False)


class Bounds(Case):
    def test_wrong_bounds(self):
        machine = Machine(1, [0], [(0, "a", 0, 0)], [])
        for most in (-1, 9, -2, 10):
            self.fault(BadBound, most)(holds, machine, Book.read("a:a"), most=most)
            self.fault(BadBound, most)(holds, Machine(1, [], [], []), Book(), most=most, lot=Lot.only("ab"))

    def test_bounds_0_to_8(self):
        for most in range(9):
            self.assertIs(holds(Machine(1, [0], [], []), Book(), most=most), True)
            edges = [(0, "a", 0, 0), *[(1, "a", most - 1, 2), (1, "b", most, 2)][:2 * most], (0, "b", 0, 0)]
            if most:
                edges += [(0, "b", 1, 0)]
            machine = Machine(3, [0], edges, [])
            self.assertIs(holds(machine, Book.read("a:b"), most=most), most > 0)

    def test_no_lot_stands_for_all_texts_of_the_book(self):
        book = Book.read("ab:b")
        edges = [(0, "a", 0, 0), (0, "b", 0, 0), (0, "b", 1, 0)]
        self.assertIs(holds(Machine(1, [0], edges, []), book, most=1), True)
        self.assertIs(holds(Machine(1, [0], edges, []), book, most=1, lot=None), True)
        self.assertIs(holds(Machine(1, [0], edges[1:], []), book, most=1), False)
        self.assertIs(holds(Machine(1, [0], edges, []), book, most=1, lot=Lot.every("abc")), False)
        self.assertIs(holds(Machine(1, [0], edges[1:], []), book, most=1, lot=Lot.every("b")), True)
        self.assertIs(holds(Machine(1, [], edges, []), book, most=1), False)


class AgainstSlowly(Case):
    def test_machines_by_chance(self):
        answers = {True: 0, False: 0}
        for seed in range(400):
            book, lot, most = some_question(seed)
            chance = random.Random(seed)
            lot = Lot.every(book.signs) if lot is None else lot
            states = chance.randint(1, 4)
            signs = book.signs or "a"
            edges = [(chance.randrange(states), chance.choice(signs), chance.choice([0, 0, 1, 2, 9]),
                      chance.randrange(states)) for _ in range(chance.randint(0, 5))]
            edges += [(state, sign, 0, to) for state, sign, to in lot.moves if state < states and to < states]
            free = [(chance.randrange(states), chance.randrange(states)) for _ in range(chance.randint(0, 3))]
            machine = Machine(states, lot.last, edges, free)
            wanted = holds_slowly(machine, book, most, lot)
            self.assertIs(holds(machine, book, most=most, lot=lot), wanted)
            answers[wanted] += 1
        self.assertGreater(min(answers.values()), 30)

    def test_machines_of_verdicts_with_a_part_less(self):
        answers = {True: 0, False: 0}
        for seed in range(150):
            book, lot, most = some_question(seed)
            machine = judge(book, most=most, lot=lot).machine
            if machine is None or machine.states > 9:
                continue
            lot = Lot.every(book.signs) if lot is None else lot
            self.assertIs(holds(machine, book, most=most, lot=lot), True)
            edges, free = list(machine.edges()), list(machine.free())
            for part in edges + free:
                fewer = Machine(machine.states, machine.last, [edge for edge in edges if edge != part],
                                [move for move in free if move != part])
                wanted = holds_slowly(fewer, book, most, lot)
                self.assertIs(holds(fewer, book, most=most, lot=lot), wanted)
                answers[wanted] += 1
        self.assertGreater(min(answers.values()), 30)


if __name__ == "__main__":
    unittest.main()
