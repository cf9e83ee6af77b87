"""Verdicts (points 2, 14, 18 and 22 to 24)."""

import random
import unittest

from risensigns.books import Book, Rule
from risensigns.errors import BadBound, NotEnough, TooLarge, TooLong
from risensigns.lots import Lot, machine_size
from risensigns.machines import Machine, holds
from risensigns.played import Play
from risensigns.rows import Row
from risensigns.verdicts import Verdict, judge
from tests.helping import (LONG_40, LONG_41, SIZE_300, SIZE_301, Case, Steps, copy_of, greatest, parts_of,
                           parts_of_machine, ring, row_of, some_question)


def linked(links, starts):
    """The states to which the links lead from the starts."""
    found, waiting = set(starts), list(starts)
    while waiting:
        state = waiting.pop()
        for source, to in links:
            if source == state and to not in found:
                found.add(to)
                waiting.append(to)
    return found


class VerdictCase(Case):
    def check_enough(self, verdict, book, most, lot):
        """Check the parts of a verdict that the bound is enough."""
        self.assertIs(type(verdict), Verdict)
        self.assertIs(verdict.enough, True)
        self.assertIs(bool(verdict), True)
        self.assertEqual((verdict.most, verdict.least, verdict.play()), (most, None, None))
        for many in (0, 1, 7, 41):
            self.assertEqual(verdict.limit(many), many * (book.longest + 1) ** most)
        self.check_machine(verdict.machine, book, most, lot)

    def check_machine(self, machine, book, most, lot):
        self.assertIs(type(machine), Machine)
        self.assertIs(holds(machine, book, most=most, lot=lot), True)
        self.assertEqual(machine.last, lot.last)
        self.assertLessEqual(machine.states, lot.states + machine_size(book, lot, most=most))
        edges = list(machine.edges())
        for state, sign, to in lot.moves:
            self.assertIn((state, sign, 0, to), edges)
        links = [(edge[0], edge[3]) for edge in edges] + list(machine.free())
        states = set(range(machine.states))
        self.assertEqual(linked(links, [0]), states)
        self.assertEqual(linked([(to, state) for state, to in links], machine.last), states)

    def check_not_enough(self, verdict, book, most, lot, least):
        """Check the parts of a verdict that the bound is not enough."""
        self.assertIs(type(verdict), Verdict)
        self.assertIs(verdict.enough, False)
        self.assertIs(bool(verdict), False)
        self.assertEqual((verdict.most, verdict.machine, verdict.least), (most, None, least))
        for many in (0, 3):
            self.fault(NotEnough, least)(verdict.limit, many)
        if least > 40:
            self.fault(TooLong, least)(verdict.play)
        else:
            self.check_play_beyond(verdict.play(), book, most, lot, least)

    def check_play_beyond(self, play, book, most, lot, least):
        self.assertIs(type(play), Play)
        self.assertIn(play.text, lot)
        self.assertEqual(len(play.text), least)
        *before, end = self.walk(play, book)
        self.assertLessEqual(max(greatest(pairs) for pairs in before), most)
        number, at = list(play)[-1]
        rule = list(book)[number]
        self.assertTrue(rule.right)
        written = end[at:at + len(rule.right)]
        self.assertEqual(written, [(sign, most + 1) for sign in rule.right])

    def judged(self, form, most, least, lot=None):
        """Check a verdict of which only `least` is given."""
        book = Book.read(form)
        verdict = judge(book, most=most, lot=lot)
        lot = Lot.every(book.signs) if lot is None else lot
        if least is None:
            self.check_enough(verdict, book, most, lot)
        else:
            self.check_not_enough(verdict, book, most, lot, least)
        self.assertEqual(book.written(), form)
        return verdict


class Known(VerdictCase):
    def test_example_of_the_interface(self):
        verdict = judge(Book.read("ab:b"), most=0)
        self.assertEqual((verdict.enough, verdict.least, verdict.play().text, list(verdict.play())),
                         (False, 2, "ab", [(0, 0)]))

    def test_erasing_from_the_left(self):
        self.judged("ab:b", 0, 2)
        for most in range(1, 9):
            machine = self.judged("ab:b", most, None).machine
            for row, wanted in ((Row("b", [1]), True), (Row("abab", [0, 1, 0, 0]), True), (Row("b", [2]), False),
                                (Row("a", [1]), False), (Row("ab"), True), (Row(), True), (Row("c"), False)):
                self.assertIs(row in machine, wanted)

    def test_sides_that_are_the_same(self):
        for most in range(9):
            play = self.judged("a:a", most, 1).play()
            self.assertEqual((play.text, list(play)), ("a", [(0, 0)] * (most + 1)))
        for most in range(6):
            self.assertEqual(self.judged("ab:ab\nc:", most, 2).play().text, "ab")

    def test_halving_needs_twice_as_many_signs_for_each_height(self):
        for most in range(7):
            self.judged("aa:a", most, 2 ** (most + 1))
        self.fault(TooLarge, 509)(judge, Book.read("aa:a"), most=7)
        self.fault(TooLarge, 1021)(judge, Book.read("aa:a"), most=8)

    def test_sorting(self):
        for most in range(6):
            self.judged("ab:ba", most, 2 * most + 2)
        for most in range(4):
            self.judged("ba:aab", most, most + 2)
        self.fault(TooLarge, 380)(judge, Book.read("ab:ba"), most=6)

    def test_rules_one_behind_the_other(self):
        form = "a:bb\nb:cc\nc:dd"
        for most in range(3):
            self.judged(form, most, 1)
        for most in (3, 4, 8):
            machine = self.judged(form, most, None).machine
            self.assertIn(Row("addcba", [0, 3, 3, 2, 1, 0]), machine)
            self.assertNotIn(Row("d", [4]), machine)
        lot = Lot.every("b")
        self.judged(form, 1, 1, lot)
        self.assertNotIn(Row("d", [3]), self.judged(form, 2, None, lot).machine)

    def test_zeros_beside_heights(self):
        # The new height is one more than the least one, so long words keep the heights low.
        self.judged("aba:abba", 0, 3)
        self.judged("abc:cab", 1, 6, Lot.only("abc", "abcabc"))
        self.judged("abc:cab", 2, None, Lot.only("abc", "abcabc"))
        self.judged("abc:cab", 0, 3, Lot.only("abc", "abcabc"))

    def test_empty_right_sides(self):
        for most in range(4):
            machine = self.judged("ab:\nba:", most, None).machine
            self.assertIn(Row("ba"), machine)
        for most in range(9):
            for form in ("a:", "a:\nb:\nab:"):
                machine = self.judged(form, most, None, Lot.only("abab")).machine
                self.assertIs(Row() in machine, form != "a:")
                self.assertIs(Row("bb") in machine, True)
                self.assertIs(Row("bb", [0, 1]) in machine, False)
        # Signs come side by side when those between them vanish.
        self.judged("ab:\ncd:e", 0, 4, Lot.only("cabd", "cx"))
        self.judged("ab:\ncd:e", 0, 8, Lot.only("caababbd", "cab", "d"))
        self.judged("ab:\ncd:e", 1, None, Lot.only("caababbd"))

    def test_empty_right_side_counts_at_the_bound(self):
        # The signs written at the bound may vanish again, and a sign may vanish at any height.
        self.assertIn(Row("ca", [0, 0]), self.judged("a:b\nb:", 1, None, Lot.only("caa")).machine)
        machine = self.judged("a:b\nb:", 1, None, Lot.only("aa")).machine
        for row, wanted in ((Row(), True), (Row("b", [1]), True), (Row("ba", [1, 0]), True), (Row("b"), False)):
            self.assertIs(row in machine, wanted)

    def test_left_sides_that_overlap(self):
        self.judged("aba:b", 0, 3)
        self.judged("aa:b\nab:c\nbc:a", 2, 10, Lot.every("a"))
        self.judged("aa:aba", 3, None)
        self.judged("aa:aba", 2, None)
        self.judged("aa:aba", 1, 4)
        self.judged("aa:aba", 0, 2)

    def test_book_without_rules(self):
        for most in range(9):
            verdict = self.judged("", most, None)
            self.assertEqual(parts_of_machine(verdict.machine), (1, [0], [], []))
            self.assertEqual((Row() in verdict.machine, "a" in verdict.machine), (True, False))
            verdict = self.judged("", most, None, Lot.only("ab"))
            self.assertEqual((Row("ab") in verdict.machine, Row("a") in verdict.machine), (True, False))

    def test_rules_twice(self):
        self.judged("ab:b\nab:b", 0, 2)
        self.judged("ab:b\nab:b", 1, None)
        self.judged("a:\na:", 0, None)

    def test_lots(self):
        form = "ab:b"
        for lot, least in ((Lot.only(""), None), (Lot.only("aaa"), None), (Lot.only("ba"), None), (Lot.only("xaby"), 4),
                           (Lot.only("xaby", "ba", "aab"), 3), (Lot.every("a"), None), (Lot.every("abc"), 2),
                           (Lot(2, [1], [(0, "a", 0), (0, "b", 1), (1, "a", 0)]), 2),
                           (Lot(3, [2], [(0, "b", 1), (1, "a", 0), (0, "c", 2)]), 5)):
            self.judged(form, 0, least, lot)
            self.judged(form, 1, None, lot)

    def test_moves_in_a_circle(self):
        lot = ring(3, "a")
        for most, least in ((0, 3), (1, 6), (2, 9), (3, 18)):
            self.judged("aa:a", most, least, lot)
        self.judged("ab:ba", 0, 2, Lot(2, [0], [(0, "a", 1), (1, "b", 0)]))
        self.judged("ab:ba", 1, 4, Lot(2, [0], [(0, "a", 1), (1, "b", 0)]))

    def test_signs_that_are_not_in_the_book(self):
        machine = self.judged("ab:b", 1, None, Lot.only("zabz", "zy")).machine
        for row, wanted in ((Row("zbz", [0, 1, 0]), True), (Row("zy"), True), (Row("zy", [0, 1]), False)):
            self.assertIs(row in machine, wanted)


class Against(VerdictCase):
    """Verdicts of questions made by chance, against what is found step by step."""

    def test_by_chance(self):
        answers = {True: 0, False: 0}
        for seed in range(250):
            book, lot, most = some_question(seed)
            verdict = judge(book, most=most, lot=lot)
            lot = Lot.every(book.signs) if lot is None else lot
            found = Steps(book, lot, most, 4 if len(book.signs) > 2 else 5, cap=400)
            answers[verdict.enough] += 1
            if verdict.enough:
                self.assertIsNone(found.least)
                self.check_enough(verdict, book, most, lot)
                self.check_rows(verdict.machine, book, lot, most, found, random.Random(seed))
            else:
                self.check_least(verdict, found)
                self.check_not_enough(verdict, book, most, lot, verdict.least)
        self.assertGreater(min(answers.values()), 50)

    def check_least(self, verdict, found):
        if found.least is not None:
            self.assertLessEqual(verdict.least, found.least)
        if found.whole and (found.least is not None or verdict.least <= 4):
            self.assertEqual(verdict.least, found.least)

    def check_rows(self, machine, book, lot, most, found, chance):
        for row in found.rows:
            self.assertIn(row_of(row), machine)
            self.assertIn("".join(sign for sign, _ in row), machine)
        self.assertLessEqual(max(map(greatest, found.rows), default=0), most)
        if not found.whole or any(not rule.right or len(rule.left) > len(rule.right) for rule in book):
            return
        # No step makes a row shorter, so all rows up to 4 signs were found.
        for _ in range(40):
            row = tuple((chance.choice(book.signs or "a"), chance.randint(0, most + 1))
                        for _ in range(chance.randint(0, 4)))
            self.assertIs(row_of(row) in machine, row in found.rows)

    def test_rows_of_lots_without_circles(self):
        """The lot has few texts, so all rows can be found; the machine reads them and no others."""
        forms = ["ab:bba\nb:", "a:b\nbb:\nba:c", "ab:\nba:\nc:ab", "aab:ba\nb:c\nca:", "a:bc\ncb:\nbb:a",
                 "abc:\nca:b\nb:c", "a:\nb:cc\nccc:d", "aa:b\nbb:aa\nab:c"]
        counted = 0
        for form in forms:
            book = Book.read(form)
            for texts in (("aabb",), ("ab", "caab", "bb"), ("", "abcab"), ("aaab", "abba")):
                for most in range(4):
                    lot = Lot.only(*texts)
                    if machine_size(book, lot, most=most) <= 300:
                        counted += self.check_all_rows(book, lot, most)
        self.assertGreater(counted, 40)

    def check_all_rows(self, book, lot, most):
        found = Steps(book, lot, most, 9, cap=20000)
        self.assertTrue(found.whole)
        verdict = judge(book, most=most, lot=lot)
        self.assertEqual(verdict.least, found.least)
        if not verdict.enough:
            self.check_not_enough(verdict, book, most, lot, found.least)
            return 0
        self.check_enough(verdict, book, most, lot)
        self.assertEqual(rows_read(verdict.machine, max(map(len, found.rows)) + 1), set(found.rows))
        return 1


def rows_read(machine, size):
    """The rows with up to `size` signs that the machine reads, found by following its ways."""
    edges, free = list(machine.edges()), list(machine.free())
    seen = {(0, ())}
    waiting = [(0, ())]
    while waiting:
        state, row = waiting.pop()
        after = [(to, row) for source, to in free if source == state]
        after += [(to, row + ((sign, height),)) for source, sign, height, to in edges
                  if source == state and len(row) < size]
        for place in after:
            if place not in seen:
                seen.add(place)
                waiting.append(place)
    return {row for state, row in seen if state in machine.last}


class Sizes(VerdictCase):
    def test_exactly_300_and_one_above(self):
        self.assertEqual(machine_size(Book(), SIZE_300, most=8), 300)
        for most in (0, 8):
            self.assertTrue(judge(Book(), most=most, lot=SIZE_300))
            self.fault(TooLarge, 301)(judge, Book(), most=most, lot=SIZE_301)

    def test_exactly_300_and_one_above_with_growths(self):
        book = Book.read("aa:a")
        lot = ring(23, "a", [(0, "z", 0)])
        self.assertEqual(machine_size(book, lot, most=2), 300)
        self.check_not_enough(judge(book, most=2, lot=lot), book, 2, lot, 23)
        more = ring(23, "a", [(0, "z", 0), (1, "z", 1)])
        self.fault(TooLarge, 301)(judge, book, most=2, lot=more)
        self.check_not_enough(judge(book, most=1, lot=more), book, 1, more, 23)

    def test_enough_at_the_size_300(self):
        # Each `c` has the size 1 + 2 + 4 + 8 + 16 = 31, each other sign of the lot the size 1.
        book = Book.read("c:dd\nd:ee\ne:ff\nf:gg")
        others = [(state, sign, state) for state in range(7) for sign in "xyz"]
        lot = ring(9, "c", others)
        self.assertEqual(machine_size(book, lot, most=4), 300)
        self.check_enough(judge(book, most=4, lot=lot), book, 4, lot)
        more = ring(9, "c", [*others, (8, "z", 8)])
        self.fault(TooLarge, 301)(judge, book, most=4, lot=more)
        self.fault(TooLarge, 301)(judge, book, most=8, lot=more)

    def test_bound_before_size(self):
        for most in (-1, 9, -2, 10):
            self.fault(BadBound, most)(judge, Book(), most=most, lot=SIZE_301)
            self.fault(BadBound, most)(judge, Book.read("aa:a"), most=most)
            self.fault(BadBound, most)(judge, Book(), most=most)

    def test_longest_text_of_a_play(self):
        book = Book.read("b:b")
        for most in (0, 1, 3):
            verdict = judge(book, most=most, lot=LONG_40)
            self.check_not_enough(verdict, book, most, LONG_40, 40)
            self.assertEqual(verdict.play().text, 39 * "a" + "b")
            verdict = judge(book, most=most, lot=LONG_41)
            self.check_not_enough(verdict, book, most, LONG_41, 41)

    def test_long_plays(self):
        # The play halves 32 signs down to one.
        verdict = judge(Book.read("aa:a"), most=4)
        self.assertEqual((verdict.least, len(verdict.play())), (32, 31))


class Copies(VerdictCase):
    def test_after_a_change_of_the_book(self):
        book = Book.read("ab:b")
        low, high = judge(book, most=0), judge(book, most=1)
        book.drop(0)
        book.add(Rule("b", "aaaa"))
        same = Book.read("ab:b")
        self.check_not_enough(low, same, 0, Lot.every("ab"), 2)
        self.check_enough(high, same, 1, Lot.every("ab"))
        self.assertEqual(high.limit(5), 10)
        second = judge(book, most=1)
        self.assertEqual(second.limit(5), 25)
        self.assertIn(Row("aaaa", [1, 1, 1, 1]), second.machine)
        self.assertNotIn(Row("aaaa", [1, 1, 1, 1]), high.machine)

    def test_play_asked_before_and_after_a_change(self):
        book = Book.read("a:b\nb:a")
        verdict = judge(book, most=2)
        first = verdict.play()
        book.drop(0)
        book.drop(0)
        self.check_play_beyond(first, Book.read("a:b\nb:a"), 2, Lot.every("ab"), 1)
        self.check_play_beyond(verdict.play(), Book.read("a:b\nb:a"), 2, Lot.every("ab"), 1)

    def test_second_verdict_of_the_same_book(self):
        for form, most in (("ab:b", 1), ("ab:ba", 2), ("ab:\nba:", 3)):
            book = Book.read(form)
            first, second = judge(book, most=most), judge(book, most=most)
            self.assertEqual((first.enough, first.least), (second.enough, second.least))
            if first.enough:
                self.assertEqual(parts_of_machine(first.machine), parts_of_machine(second.machine))

    def test_book_and_lot_stay(self):
        lot = Lot(2, [1], [(0, "a", 0), (0, "b", 1)])
        parts = parts_of(lot)
        for most in range(3):
            book = Book.read("ab:b\nb:ab")
            before = copy_of(book)
            verdict = judge(book, most=most, lot=lot)
            verdict.play()
            self.fault(BadBound, 9)(judge, book, most=9, lot=lot)
            self.assertEqual((copy_of(book), parts_of(lot)), (before, parts))

    def test_lists_of_the_machine_are_new(self):
        machine = judge(Book.read("ab:b"), most=1).machine
        before = parts_of_machine(machine)
        machine.last.clear()
        machine.ends(0, Row("ab")).clear()
        self.assertEqual(parts_of_machine(machine), before)

    def test_rows_of_the_play_may_be_changed(self):
        verdict = judge(Book.read("a:a"), most=3)
        verdict.play().end()[0] = ("z", 9)
        for row in verdict.play().rows():
            row[0] = ("z", 9)
        self.check_not_enough(verdict, Book.read("a:a"), 3, Lot.every("a"), 1)


if __name__ == "__main__":
    unittest.main()
