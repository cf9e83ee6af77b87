"""Lots and the sizes of questions (points 2, 13 and 14)."""

import itertools
import string
import unittest

from risensigns.books import Book, Rule
from risensigns.errors import BadBound, BadLot, BadSign, Useless
from risensigns.lots import Lot, machine_size
from tests.helping import Case


def chain(states):
    """The lot of one text of `a`, with so many states."""
    return Lot(states, [states - 1], [(state, "a", state + 1) for state in range(states - 1)])


def texts_up_to(signs, size):
    for many in range(size + 1):
        for chosen in itertools.product(signs, repeat=many):
            yield "".join(chosen)


class LotCase(Case):
    def check_lot(self, lot, states, last, moves):
        self.assertEqual((lot.states, lot.last, lot.moves), (states, last, moves))
        self.assertEqual([type(move) for move in lot.moves], [tuple] * len(moves))


class Made(LotCase):
    def test_parts(self):
        lot = Lot(3, [2], [(0, "a", 1), (1, "b", 1), (1, "c", 2)])
        self.check_lot(lot, 3, [2], [(0, "a", 1), (1, "b", 1), (1, "c", 2)])

    def test_one_state(self):
        self.check_lot(Lot(1, [0], []), 1, [0], [])

    def test_ascending_without_duplicates(self):
        moves = [(2, "a", 1), (0, "z", 2), (1, "b", 2), (0, "a", 1), (0, "z", 2), (1, "a", 2), (0, "a", 1)]
        lot = Lot(3, [2, 0, 2, 1, 0], moves)
        self.check_lot(lot, 3, [0, 1, 2], [(0, "a", 1), (0, "z", 2), (1, "a", 2), (1, "b", 2), (2, "a", 1)])

    def test_last_states_ascending(self):
        moves = [(state, "a", state + 1) for state in range(39)]
        lot = Lot(40, [39, 33, 8, 16, 1, 32, 8], moves)
        self.check_lot(lot, 40, [1, 8, 16, 32, 33, 39], moves)

    def test_numbers_of_states(self):
        for states in (1, 2, 39, 40):
            self.assertEqual(chain(states).states, states)
        for states in (41, 42, 100):
            self.fault(BadLot)(chain, states)
        for states in (0, -1):
            self.fault(BadLot)(Lot, states, [], [])
            self.fault(BadLot)(Lot, states, [0], [])
        self.fault(BadLot)(Lot, 41, [0], [])

    def test_wrong_last_states(self):
        for last in ([-1], [2], [0, 2], [-1, 1], [1, 100], [1, 0, -2]):
            self.fault(BadLot)(Lot, 2, last, [(0, "a", 1), (1, "a", 0)])

    def test_wrong_states_of_moves(self):
        for move in [(-1, "b", 0), (0, "b", -1), (2, "b", 0), (0, "b", 2), (0, "b", 40), (7, "b", 7)]:
            self.fault(BadLot)(Lot, 2, [1], [(0, "a", 1), move])
            self.fault(BadLot)(Lot, 2, [1], [move, (0, "a", 1)])

    def test_wrong_signs_of_moves(self):
        for sign in ("", "ab", "A", " ", "\n", ":", "0", "a ", "abc"):
            self.fault(BadLot)(Lot, 2, [1], [(0, "a", 1), (1, sign, 1)])
            self.fault(BadLot)(Lot, 2, [1], [(1, sign, 1), (0, "a", 1)])

    def test_two_moves_with_one_sign(self):
        self.fault(BadLot)(Lot, 2, [1], [(0, "a", 1), (0, "a", 0)])
        self.fault(BadLot)(Lot, 2, [1], [(0, "a", 0), (0, "a", 1)])
        self.fault(BadLot)(Lot, 2, [1], [(0, "a", 1), (1, "b", 0), (0, "a", 1), (1, "b", 1)])
        self.fault(BadLot)(Lot, 2, [1], [(0, "a", 0), (0, "a", 1), (0, "a", 0)])
        Lot(2, [1], [(0, "a", 1), (1, "a", 0), (0, "b", 0), (0, "a", 1)])

    def test_useless_because_not_reached(self):
        self.fault(Useless, 1)(Lot, 2, [0, 1], [])
        self.fault(Useless, 1)(Lot, 3, [2], [(0, "a", 2), (1, "a", 2)])
        self.fault(Useless, 2)(Lot, 3, [1], [(0, "a", 1), (2, "a", 1), (2, "b", 2)])

    def test_useless_because_no_last_state_follows(self):
        self.fault(Useless, 0)(Lot, 1, [], [])
        self.fault(Useless, 0)(Lot, 1, [], [(0, "a", 0)])
        self.fault(Useless, 1)(Lot, 2, [0], [(0, "a", 1), (1, "b", 1)])
        self.fault(Useless, 0)(Lot, 2, [1], [])
        self.fault(Useless, 0)(Lot, 2, [1], [(1, "a", 0)])

    def test_least_useless_state(self):
        # The states 2 and 4 are not reached, no last state follows the states 1 and 3.
        moves = [(0, "a", 1), (1, "a", 3), (2, "a", 0), (4, "a", 0)]
        self.fault(Useless, 1)(Lot, 5, [0], moves)
        self.fault(Useless, 2)(Lot, 5, [0], [*moves, (3, "a", 0)])
        self.fault(Useless, 3)(Lot, 5, [0, 2], [(0, "a", 1), (1, "a", 2), (3, "a", 4), (0, "b", 4)])
        self.fault(Useless, 4)(Lot, 5, [0, 3], [(0, "a", 1), (1, "a", 2), (2, "a", 3), (0, "b", 4)])

    def test_useful_over_long_ways(self):
        moves = [(0, "a", 3), (3, "a", 1), (1, "a", 4), (4, "a", 2), (2, "a", 0)]
        lot = Lot(5, [4], moves)
        self.assertEqual(lot.states, 5)
        self.assertIs("aaa" in lot, True)

    def test_bad_lot_before_useless(self):
        self.fault(BadLot)(Lot, 3, [9], [])
        self.fault(BadLot)(Lot, 3, [], [(0, "a", 9)])
        self.fault(BadLot)(Lot, 3, [], [(0, "", 1)])
        self.fault(BadLot)(Lot, 3, [], [(0, "a", 1), (0, "a", 0)])

    def test_useless_is_a_bad_lot(self):
        with self.assertRaises(BadLot):
            Lot(2, [0], [])

    def test_passed_lists_are_neither_changed_nor_kept(self):
        last = [1, 0, 1]
        moves = [(1, "b", 0), (0, "a", 1), (0, "a", 1)]
        lot = Lot(2, last, moves)
        self.assertEqual((last, moves), ([1, 0, 1], [(1, "b", 0), (0, "a", 1), (0, "a", 1)]))
        last.clear()
        moves[1] = (0, "z", 1)
        self.check_lot(lot, 2, [0, 1], [(0, "a", 1), (1, "b", 0)])
        self.assertIs("ab" in lot, True)
        self.assertIs("z" in lot, False)

    def test_returned_lists_are_new(self):
        lot = Lot(2, [1], [(0, "a", 1)])
        lot.last.append(0)
        lot.moves.append((1, "a", 1))
        lot.moves[0] = (0, "b", 1)
        self.check_lot(lot, 2, [1], [(0, "a", 1)])
        self.assertEqual([text for text in texts_up_to("ab", 3) if text in lot], ["a"])
        self.assertEqual((type(lot.last), type(lot.moves)), (list, list))


class Texts(Case):
    def test_texts_of_moves(self):
        lot = Lot(3, [2], [(0, "a", 1), (1, "b", 1), (1, "a", 2)])
        found = [text for text in texts_up_to("abc", 4) if text in lot]
        self.assertEqual(found, ["aa", "aba", "abba"])

    def test_answers_are_true_and_false(self):
        lot = Lot(2, [1], [(0, "a", 1)])
        self.assertIs("a" in lot, True)
        for text in ("", "b", "aa", "ab", "ba"):
            self.assertIs(text in lot, False)

    def test_empty_string(self):
        self.assertIs("" in Lot(1, [0], []), True)
        self.assertIs("" in Lot(2, [0, 1], [(0, "a", 1)]), True)
        self.assertIs("" in Lot(2, [1], [(0, "a", 1)]), False)

    def test_no_other_string_is_in_a_lot(self):
        lot = Lot.every(string.ascii_lowercase)
        for text in (" ", "A", "a b", "ab\n", "a:b", "0", "-"):
            self.assertIs(text in lot, False)
            self.assertIs(text in Lot.only("ab", ""), False)

    def test_no_way_back_after_a_wrong_sign(self):
        lot = Lot.every("a")
        for text in ("ba", "ab", "aba", "a.a", "b", "bb"):
            self.assertIs(text in lot, False)


class Every(LotCase):
    def test_texts(self):
        lot = Lot.every("ba")
        self.assertIs(type(lot), Lot)
        self.check_lot(lot, 1, [0], [(0, "a", 0), (0, "b", 0)])
        for text in texts_up_to("abc", 4):
            self.assertIs(text in lot, "c" not in text)

    def test_sign_twice(self):
        self.check_lot(Lot.every("abab"), 1, [0], [(0, "a", 0), (0, "b", 0)])

    def test_no_sign(self):
        lot = Lot.every("")
        self.check_lot(lot, 1, [0], [])
        self.assertIs("" in lot, True)
        self.assertIs("a" in lot, False)

    def test_all_signs(self):
        self.assertEqual(len(Lot.every(string.ascii_lowercase * 3).moves), 26)

    def test_bad_sign(self):
        self.fault(BadSign, 2)(Lot.every, "abA.")
        self.fault(BadSign, 0)(Lot.every, " ")


class Only(LotCase):
    def test_one_text(self):
        lot = Lot.only("ab")
        self.assertIs(type(lot), Lot)
        self.check_lot(lot, 3, [2], [(0, "a", 1), (1, "b", 2)])

    def test_empty_text(self):
        self.check_lot(Lot.only(""), 1, [0], [])
        self.check_lot(Lot.only("", "a"), 2, [0, 1], [(0, "a", 1)])

    def test_states_by_length_and_then_alphabetically(self):
        lot = Lot.only("bb", "abc", "ba", "c", "ab")
        # The states: "", a, b, c, ab, ba, bb, abc.
        moves = [(0, "a", 1), (0, "b", 2), (0, "c", 3), (1, "b", 4), (2, "a", 5), (2, "b", 6), (4, "c", 7)]
        self.check_lot(lot, 8, [3, 4, 5, 6, 7], moves)

    def test_length_before_alphabet(self):
        self.check_lot(Lot.only("aa", "z"), 4, [2, 3], [(0, "a", 1), (0, "z", 2), (1, "a", 3)])

    def test_same_text_twice(self):
        self.check_lot(Lot.only("a", "a"), 2, [1], [(0, "a", 1)])

    def test_texts(self):
        for chosen in (["a"], ["", "ab"], ["ab", "ba", "abab"], ["aaa", "aab", "abb", "bbb"]):
            lot = Lot.only(*chosen)
            for text in texts_up_to("abc", 4):
                self.assertIs(text in lot, text in chosen)

    def test_no_text(self):
        self.fault(BadLot)(Lot.only)

    def test_first_argument_that_is_no_text(self):
        self.fault(BadSign, 1)(Lot.only, "a", "bB", " ")
        self.fault(BadSign, 0)(Lot.only, "Z")
        self.fault(BadSign, 2)(Lot.only, "", "ab\n")

    def test_40_and_41_states(self):
        lot = Lot.only("a" * 39)
        self.assertEqual((lot.states, lot.last, len(lot.moves)), (40, [39], 39))
        self.fault(BadLot)(Lot.only, "a" * 40)
        self.fault(BadLot)(Lot.only, "a" * 60)
        lot = Lot.only("a" * 20, "b" * 19)
        self.assertEqual((lot.states, lot.last), (40, [38, 39]))
        self.fault(BadLot)(Lot.only, "a" * 20, "b" * 20)

    def test_bad_sign_before_too_many_states(self):
        self.fault(BadSign, 1)(Lot.only, "a" * 50, "bB")

    def test_passed_list_is_not_kept(self):
        texts = ["b", "a"]
        lot = Lot.only(*texts)
        texts.append("c")
        self.assertIs("c" in lot, False)
        self.assertEqual(texts, ["b", "a", "c"])


class MachineSize(Case):
    def test_sum_over_the_moves(self):
        book = Book.read("ab:b")
        lot = Lot(3, [2], [(0, "a", 1), (1, "b", 1), (1, "a", 2), (0, "c", 1)])
        self.assertEqual(machine_size(book, lot, most=0), 4)
        self.assertEqual(machine_size(book, lot, most=1), 3 + 3 + 3 + 1)
        self.assertEqual(machine_size(book, lot, most=2), 5 + 5 + 5 + 1)

    def test_sizes_at_height_0(self):
        book = Book.read("ab:bba\nb:\nca:cc")
        lot = Lot.only("abc", "cab", "z")
        for most in range(9):
            wanted = sum(book.grown(sign, most=most, height=0) for _, sign, _ in lot.moves)
            size = machine_size(book, lot, most=most)
            self.assertEqual(size, wanted)
            self.assertIs(type(size), int)

    def test_moves_listed_twice_count_once(self):
        book = Book.read("a:bb")
        self.assertEqual(machine_size(book, Lot(1, [0], [(0, "a", 0)] * 3), most=1), 3)

    def test_no_moves(self):
        self.assertEqual(machine_size(Book.read("a:bb"), Lot.every(""), most=8), 0)
        self.assertEqual(machine_size(Book(), Lot.every("abc"), most=8), 3)

    def test_wrong_bounds(self):
        for most in (-1, 9, 10, -2):
            self.fault(BadBound, most)(machine_size, Book.read("a:b"), Lot.every("ab"), most=most)
            self.fault(BadBound, most)(machine_size, Book(), Lot.every(""), most=most)

    def test_largest_question(self):
        book = Book(*[Rule("aaaa", "aaaa")] * 6)
        moves = [(state, sign, min(state + 1, 39)) for state in range(40) for sign in string.ascii_lowercase]
        size = machine_size(book, Lot(40, [39], moves), most=8)
        self.assertEqual(size, 40 * (book.grown("a", most=8) + 25))

    def test_after_changes(self):
        book = Book.read("a:b")
        lot = Lot.every("a")
        book.add(Rule("a", "bb"))
        self.assertEqual(machine_size(book, lot, most=1), 4)
        book.drop(0)
        self.assertEqual(machine_size(book, lot, most=1), 3)


if __name__ == "__main__":
    unittest.main()
