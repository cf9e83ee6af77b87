"""Machines (points 2 and 16)."""

import itertools
import random
import types
import unittest

from risensigns.machines import Machine
from risensigns.rows import Row
from tests.helping import Case, parts_of_machine


def read_slowly(edges, free, start, pairs):
    """The states to which a way from the start reads the pairs, found place by place."""
    seen = {(start, 0)}
    waiting = [(start, 0)]
    while waiting:
        state, at = waiting.pop()
        after = [(to, at) for source, to in free if source == state]
        after += [(to, at + 1) for source, sign, height, to in edges
                  if source == state and at < len(pairs) and pairs[at] == (sign, height)]
        for place in after:
            if place not in seen:
                seen.add(place)
                waiting.append(place)
    return sorted(state for state, at in seen if at == len(pairs))


def some_machine(chance):
    states = chance.randint(1, 6)
    last = [chance.randrange(states) for _ in range(chance.randint(0, 3))]
    edges = [(chance.randrange(states), chance.choice("ab"), chance.randint(0, 2), chance.randrange(states))
             for _ in range(chance.randint(0, 9))]
    free = [(chance.randrange(states), chance.randrange(states)) for _ in range(chance.randint(0, 6))]
    return states, last, edges, free


class Parts(Case):
    def test_any_order_and_twice(self):
        edges = [(1, "b", 0, 2), (0, "b", 1, 1), (0, "b", 0, 2), (0, "a", 9, 1), (0, "b", 0, 1), (0, "b", 1, 1)]
        machine = Machine(3, [2, 0, 2], edges, [(2, 0), (1, 2), (2, 0), (1, 0)])
        self.assertEqual(machine.states, 3)
        self.assertEqual(machine.last, [0, 2])
        self.assertEqual(list(machine.edges()), [(0, "a", 9, 1), (0, "b", 0, 1), (0, "b", 0, 2), (0, "b", 1, 1),
                                                 (1, "b", 0, 2)])
        self.assertEqual(list(machine.free()), [(1, 0), (1, 2), (2, 0)])

    def test_states_ascend_as_numbers(self):
        edges = [(11, "a", 0, 2), (2, "a", 0, 10), (2, "a", 0, 9)]
        machine = Machine(12, [11, 2, 10], edges, [(10, 2), (9, 11), (9, 3)])
        self.assertEqual(machine.last, [2, 10, 11])
        self.assertEqual(list(machine.edges()), [(2, "a", 0, 9), (2, "a", 0, 10), (11, "a", 0, 2)])
        self.assertEqual(list(machine.free()), [(9, 3), (9, 11), (10, 2)])

    def test_free_moves_from_a_state_to_itself_are_left_out(self):
        machine = Machine(2, [1], [], [(0, 0), (0, 1), (1, 1), (0, 0)])
        self.assertEqual(list(machine.free()), [(0, 1)])
        self.assertEqual(machine.ends(1, Row()), [1])

    def test_nothing_listed(self):
        self.assertEqual(parts_of_machine(Machine(1, [], [], [])), (1, [], [], []))
        self.assertEqual(parts_of_machine(Machine(7, [], [], [])), (7, [], [], []))

    def test_generators_of_tuples(self):
        machine = Machine(2, [1], [(0, "a", 0, 1)], [(0, 1)])
        for yielded in (machine.edges(), machine.free()):
            self.assertIsInstance(yielded, types.GeneratorType)
            self.assertEqual([type(one) for one in yielded], [tuple])
        self.assertEqual(list(machine.edges()), list(machine.edges()))

    def test_lists_passed_are_neither_changed_nor_kept(self):
        last, edges, free = [1, 0, 1], [(1, "b", 0, 0), (0, "a", 0, 1)], [(1, 0), (0, 0)]
        machine = Machine(2, last, edges, free)
        self.assertEqual((last, edges, free), ([1, 0, 1], [(1, "b", 0, 0), (0, "a", 0, 1)], [(1, 0), (0, 0)]))
        for passed in (last, edges, free):
            passed.clear()
        self.assertEqual(parts_of_machine(machine), (2, [0, 1], [(0, "a", 0, 1), (1, "b", 0, 0)], [(1, 0)]))
        self.assertEqual(machine.ends(0, Row("a")), [0, 1])
        self.assertIn("ab", machine)

    def test_lists_returned_are_new(self):
        machine = Machine(2, [1], [(0, "a", 0, 1)], [(0, 1)])
        machine.last.append(0)
        machine.last.clear()
        self.assertEqual(machine.last, [1])
        machine.ends(0, Row()).append(7)
        self.assertEqual(machine.ends(0, Row()), [0, 1])
        self.assertNotIn("aa", machine)


class Ends(Case):
    def setUp(self):
        # 0 -a0-> 1 -b1-> 2, 2 leads freely to 0, 1 leads freely to 3 and 3 to 4.
        edges = [(0, "a", 0, 1), (1, "b", 1, 2), (4, "b", 1, 4)]
        self.machine = Machine(5, [2], edges, [(2, 0), (1, 3), (3, 4), (3, 3)])

    def test_from_each_state(self):
        for start, wanted in enumerate([[1, 3, 4], [], [1, 3, 4], [], []]):
            self.assertEqual(self.machine.ends(start, Row("a")), wanted)
        for start, wanted in enumerate([[], [0, 2, 4], [], [4], [4]]):
            self.assertEqual(self.machine.ends(start, Row("b", [1])), wanted)
        for start, wanted in enumerate([[0, 2, 4], [], [0, 2, 4], [], []]):
            self.assertEqual(self.machine.ends(start, Row("ab", [0, 1])), wanted)

    def test_empty_row(self):
        for start, wanted in enumerate([[0], [1, 3, 4], [0, 2], [3, 4], [4]]):
            self.assertEqual(self.machine.ends(start, Row()), wanted)

    def test_row_that_nothing_reads(self):
        for row in (Row("b"), Row("a", [1]), Row("z"), Row("ab"), Row("aa"), Row("abz", [0, 1, 0]), Row("a", [9])):
            for start in (0, 2):
                self.assertEqual(self.machine.ends(start, row), [])

    def test_several_edges_with_other_heights(self):
        machine = Machine(4, [3], [(0, "a", 0, 1), (0, "a", 1, 2), (0, "a", 1, 3), (0, "a", 9, 0)], [])
        self.assertEqual(machine.ends(0, Row("a")), [1])
        self.assertEqual(machine.ends(0, Row("a", [1])), [2, 3])
        self.assertEqual(machine.ends(0, Row("aaa", [9, 9, 1])), [2, 3])
        self.assertEqual(machine.ends(0, Row("a", [2])), [])

    def test_free_moves_one_behind_the_other(self):
        many = 200
        machine = Machine(many, [many - 1], [(many - 1, "a", 0, 0)], [(state, state + 1) for state in range(many - 1)])
        self.assertEqual(machine.ends(0, Row()), list(range(many)))
        self.assertEqual(machine.ends(150, Row("aa")), list(range(many)))
        backwards = Machine(many, [0], [], [(state + 1, state) for state in range(many - 1)])
        self.assertEqual(backwards.ends(150, Row()), list(range(151)))

    def test_free_moves_in_a_circle(self):
        machine = Machine(6, [5], [(2, "a", 0, 4)], [(0, 1), (1, 2), (2, 0), (4, 5), (5, 4), (2, 2)])
        for start in (0, 1, 2):
            self.assertEqual(machine.ends(start, Row()), [0, 1, 2])
            self.assertEqual(machine.ends(start, Row("a")), [4, 5])
        self.assertEqual(machine.ends(3, Row()), [3])
        self.assertEqual(machine.ends(3, Row("a")), [])
        self.assertEqual(machine.ends(5, Row()), [4, 5])

    def test_row_stays(self):
        row = Row("ab", [0, 1])
        self.machine.ends(0, row)
        self.assertIn(row, self.machine)
        self.same_rows(row, "ab", [0, 1])

    def test_against_slow_reading(self):
        for seed in range(150):
            chance = random.Random(seed)
            states, last, edges, free = some_machine(chance)
            machine = Machine(states, last, edges, free)
            for start in range(states):
                for _ in range(6):
                    pairs = [(chance.choice("ab"), chance.randint(0, 2)) for _ in range(chance.randint(0, 4))]
                    row = Row("".join(sign for sign, _ in pairs), [height for _, height in pairs])
                    wanted = read_slowly(edges, free, start, pairs)
                    self.assertEqual(machine.ends(start, row), wanted)
                    if start == 0:
                        self.assertIs(row in machine, any(state in last for state in wanted))


class Contains(Case):
    def setUp(self):
        self.machine = Machine(3, [2], [(0, "a", 2, 1), (1, "b", 0, 1), (1, "b", 3, 1)], [(1, 2)])

    def test_row(self):
        for row in (Row("a", [2]), Row("ab", [2, 0]), Row("abb", [2, 3, 0])):
            self.assertIs(row in self.machine, True)
        for row in (Row(), Row("a"), Row("b"), Row("ab", [0, 0]), Row("ab", [2, 1]), Row("aab", [2, 2, 0])):
            self.assertIs(row in self.machine, False)

    def test_string_whatever_the_heights(self):
        for signs in ("a", "ab", "abbb"):
            self.assertIs(signs in self.machine, True)
        for signs in ("", "b", "aa", "aba", "ba", "z"):
            self.assertIs(signs in self.machine, False)

    def test_heights_differ_along_one_way(self):
        machine = Machine(4, [3], [(0, "a", 0, 1), (1, "b", 1, 3), (0, "a", 5, 2), (2, "c", 6, 3)], [])
        self.assertIn("ab", machine)
        self.assertIn("ac", machine)
        self.assertNotIn(Row("ab", [5, 1]), machine)
        self.assertNotIn(Row("ac", [0, 6]), machine)
        self.assertIn(Row("ac", [5, 6]), machine)

    def test_empty_ones(self):
        for machine, wanted in ((Machine(1, [0], [], []), True), (Machine(1, [], [], []), False),
                                (Machine(3, [2], [], [(0, 1), (1, 2)]), True), (Machine(2, [1], [], [(1, 0)]), False)):
            self.assertIs(Row() in machine, wanted)
            self.assertIs("" in machine, wanted)

    def test_string_that_is_no_text(self):
        machine = Machine(1, [0], [(0, sign, 0, 0) for sign in "abcdefghijklmnopqrstuvwxyz"], [])
        self.assertIn("thequickbrownfox", machine)
        for signs in ("A", "a b", "ab ", " ", "\n", "a\n", "1", "a-b", "~", "\t", "aB"):
            self.assertIs(signs in machine, False)

    def test_no_last_state(self):
        machine = Machine(2, [], [(0, "a", 0, 1)], [(0, 1)])
        for part in ("", "a", Row(), Row("a")):
            self.assertIs(part in machine, False)

    def test_against_slow_reading(self):
        for seed in range(100):
            states, last, edges, free = some_machine(random.Random(seed))
            machine = Machine(states, last, edges, free)
            for many in range(4):
                for signs in itertools.product("ab", repeat=many):
                    flat = [(state, sign, 0, to) for state, sign, _, to in edges]
                    wanted = read_slowly(flat, free, 0, [(sign, 0) for sign in signs])
                    self.assertIs("".join(signs) in machine, any(state in last for state in wanted))


if __name__ == "__main__":
    unittest.main()
