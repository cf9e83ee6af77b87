"""Rows that come from a lot (points 2, 14, 18, 20 and 22 to 24)."""

import random
import unittest

from risensigns.books import Book, Rule
from risensigns.errors import BadBound, NotEnough, TooLarge, TooLong
from risensigns.lots import Lot, machine_size
from risensigns.machines import Machine, holds
from risensigns.played import Play
from risensigns.reached import comes, history, reaches, strays
from risensigns.rows import Row
from risensigns.verdicts import judge
from tests.helping import (LONG_40, LONG_41, SIZE_300, SIZE_301, Case, Steps, copy_of, greatest, parts_of,
                           parts_of_machine, row_of, signs_of, some_lot, some_question)

def asked_functions(row=Row("a"), goal=Lot.only("a")):
    """The four functions, as functions of a book, a lot and a bound."""
    def coming(book, lot, most):
        return comes(book, lot, most=most)

    def going_back(book, lot, most):
        return history(book, lot, row, most=most)

    def reaching(book, lot, most):
        return reaches(book, lot, goal, most=most)

    def straying(book, lot, most):
        return strays(book, lot, most=most)
    return [coming, going_back, reaching, straying]


class ReachedCase(Case):
    def check_play(self, play, book, lot, most, size=None):
        """Check a play within the bound and return its last row as a list of pairs."""
        self.assertIs(type(play), Play)
        self.assertIn(play.text, lot)
        if size is not None:
            self.assertEqual(len(play.text), size)
        rows = self.walk(play, book)
        self.assertEqual(rows[0], [(sign, 0) for sign in play.text])
        self.assertLessEqual(max(map(greatest, rows)), most)
        return rows[-1]


class Errors(ReachedCase):
    def test_bound_first(self):
        for ask in asked_functions():
            for most in (-1, 9, -2, 10):
                self.fault(BadBound, most)(ask, Book(), SIZE_301, most)
                self.fault(BadBound, most)(ask, Book.read("aa:a"), Lot.every("a"), most)
                self.fault(BadBound, most)(ask, Book(), Lot.only("a"), most)

    def test_size_before_enough(self):
        for ask in asked_functions():
            self.fault(TooLarge, 301)(ask, Book.read("y:yyy"), SIZE_301, 0)
            self.fault(TooLarge, 301)(ask, Book(), SIZE_301, 8)
            self.fault(TooLarge, 509)(ask, Book.read("aa:a"), Lot.every("a"), 7)
            self.fault(TooLarge, 1021)(ask, Book.read("aa:a"), Lot.every("a"), 8)
        comes(Book(), SIZE_300, most=8)
        self.assertEqual(history(Book(), SIZE_300, Row("abcdefghijkl"), most=8).text, "abcdefghijkl")

    def test_not_enough(self):
        for ask in asked_functions():
            for most in range(7):
                # The texts may be longer than those of a play.
                self.fault(NotEnough, 2 ** (most + 1))(ask, Book.read("aa:a"), Lot.every("a"), most)
            self.fault(NotEnough, 2)(ask, Book.read("ab:b"), Lot.every("ab"), 0)
            self.fault(NotEnough, 41)(ask, Book.read("b:b"), LONG_41, 8)

    def test_not_enough_before_too_long(self):
        row = Row("a" * 41)
        for ask in asked_functions(row, Lot(1, [0], [(0, "c", 0)])):
            self.fault(NotEnough, 2)(ask, Book.read("ab:b"), Lot.every("ab"), 0)

    def test_row_above_the_bound_is_no_error(self):
        self.assertIsNone(history(Book.read("ab:b"), Lot.every("ab"), Row("b", [9]), most=1))

    def test_nothing_is_changed(self):
        book, lot, goal, row = Book.read("ab:b\nc:"), Lot.only("aab", "cab"), Lot.only("b"), Row("ab", [0, 1])
        before = (copy_of(book), parts_of(lot), parts_of(goal), list(row))
        for ask in asked_functions(row, goal):
            for most in (-1, 0, 1, 8, 9):
                try:
                    ask(book, lot, most)
                except (BadBound, NotEnough):
                    pass
                self.assertEqual((copy_of(book), parts_of(lot), parts_of(goal), list(row)), before)


class Comes(ReachedCase):
    def test_machine(self):
        book, lot = Book.read("ab:b"), Lot.every("ab")
        machine = comes(book, lot, most=1)
        self.assertIs(type(machine), Machine)
        self.assertIs(holds(machine, book, most=1, lot=lot), True)
        for row, wanted in ((Row(), True), (Row("b", [1]), True), (Row("bab", [1, 0, 1]), True),
                            (Row("b", [2]), False)):
            self.assertIs(row in machine, wanted)

    def test_as_the_machine_of_a_verdict(self):
        for seed in range(60):
            book, lot, most = some_question(seed)
            lot = Lot.every(book.signs) if lot is None else lot
            verdict = judge(book, most=most, lot=lot)
            if not verdict:
                self.fault(NotEnough, verdict.least)(comes, book, lot, most=most)
                continue
            machine = comes(book, lot, most=most)
            self.assertIs(holds(machine, book, most=most, lot=lot), True)
            self.assertEqual(machine.last, lot.last)
            self.assertLessEqual(machine.states, lot.states + machine_size(book, lot, most=most))
            for row in Steps(book, lot, most, 3, cap=200).rows:
                self.assertIn(row_of(row), machine)

    def test_later_changes(self):
        book = Book.read("ab:b")
        machine = comes(book, Lot.every("ab"), most=1)
        before = parts_of_machine(machine)
        book.drop(0)
        machine.last.clear()
        self.assertEqual(parts_of_machine(machine), before)
        self.assertIn(Row("b", [1]), machine)


class History(ReachedCase):
    def history(self, form, lot, row, most, size):
        """Check a history of which only the number of signs of its text is given."""
        book = Book.read(form)
        kept = list(row)
        play = history(book, lot, row, most=most)
        self.assertEqual(list(row), kept)
        if size is None:
            self.assertIsNone(play)
        else:
            self.assertEqual(self.check_play(play, book, lot, most, size), kept)
        return play

    def test_rows(self):
        lot = Lot.every("ab")
        self.history("ab:b", lot, Row("b", [1]), 1, 2)
        self.history("ab:b", lot, Row("bbab", [1, 1, 0, 1]), 1, 7)
        self.history("ab:b", lot, Row("b", [2]), 2, None)
        self.history("ab:b", lot, Row("a", [1]), 8, None)
        self.history("ab:b", lot, Row("c"), 1, None)
        self.history("ab:b", Lot.only("aaab"), Row("b", [1]), 1, 4)
        self.history("ab:b", Lot.only("aaab", "aab", "b"), Row("b", [1]), 1, 3)
        self.history("ab:b", Lot.only("ba", "b"), Row("b", [1]), 1, None)

    def test_without_steps(self):
        for row in (Row(), Row("ab"), Row("bbba")):
            self.assertEqual(len(self.history("ab:b", Lot.every("ab"), row, 1, len(row))), 0)
        play = self.history("", Lot.only("zz"), Row("zz"), 0, 2)
        self.assertIsNotNone(play)
        self.assertEqual((play.text, list(play)), ("zz", []))

    def test_empty_row(self):
        self.history("ab:\nba:", Lot.only("abab", "aabb", "a"), Row(), 0, 4)
        self.history("ab:", Lot.only("aababb", "ba"), Row(), 0, 6)
        self.history("ab:", Lot.only("aabab", "ba"), Row(), 0, None)
        self.history("a:", Lot.every("a"), Row(), 3, 0)
        self.history("abc:", Lot.only("aabcbc", "abca"), Row(), 0, 6)

    def test_signs_that_vanish_between_signs(self):
        lot = Lot.only("xaabby", "xaby", "axy")
        self.history("ab:\nxy:z", lot, Row("z", [1]), 1, 4)
        self.history("ab:\nxy:z", lot, Row("az", [0, 1]), 1, 3)
        self.history("ab:\nxy:z", Lot.only("xaabby"), Row("z", [1]), 1, 6)
        self.history("ab:\nwxyz:vv", Lot.only("waabbxyababz"), Row("vv", [1, 1]), 1, 12)
        self.history("ab:\nwxyz:vv", Lot.only("waabbxaybabz"), Row("vv", [1, 1]), 1, None)

    def test_several_heights(self):
        form = "a:bb\nb:cc\nc:dd"
        self.history(form, Lot.every("abc"), Row("d" * 8, [3] * 8), 3, 1)
        self.history(form, Lot.every("abc"), Row("d" * 7, [3] * 7), 3, None)
        self.history(form, Lot.every("abc"), Row("dddd", [2, 2, 2, 2]), 3, 1)
        self.history(form, Lot.every("abc"), Row("dddd", [1, 1, 1, 1]), 3, 2)
        self.history(form, Lot.every("abc"), Row("ddcb", [3, 3, 2, 1]), 3, 1)

    def test_long_plays(self):
        self.history("a:bb\nb:cc\nc:dd", Lot.every("a"), Row("d" * 320, [3] * 320), 3, 40)
        self.history("ab:b", Lot.only("a" * 38 + "b"), Row("b", [1]), 1, 39)

    def test_heights_of_a_row_beyond_the_bound(self):
        for height in range(2, 10):
            self.history("ab:b", Lot.every("ab"), Row("b", [height]), 1, None)

    def test_row_changed_afterwards(self):
        book, row = Book.read("ab:b"), Row("b", [1])
        play = history(book, Lot.every("ab"), row, most=1)
        row[0] = ("z", 9)
        book.drop(0)
        self.assertEqual(list(play.end()), [("b", 1)])


class Reaches(ReachedCase):
    def reaches(self, form, lot, goal, most, size):
        book = Book.read(form)
        play = reaches(book, lot, goal, most=most)
        if size is None:
            self.assertIsNone(play)
            return None
        self.assertIn(signs_of(self.check_play(play, book, lot, most, size)), goal)
        return play

    def test_goals(self):
        lot = Lot.only("aab", "aaab", "ba")
        self.reaches("ab:b", lot, Lot.only("b"), 1, 3)
        self.reaches("ab:b", lot, Lot.only("aab", "bb"), 1, 3)
        self.reaches("ab:b", lot, Lot.only("a", "bb", "abab"), 1, None)
        self.reaches("ab:b", lot, Lot(2, [1], [(0, "a", 1), (1, "b", 0), (0, "b", 0)]), 1, 2)
        self.reaches("ab:b", Lot.every("ab"), Lot.only("bb", "bbb"), 1, 2)
        self.reaches("ab:b", Lot.every("ab"), Lot.every("c"), 1, 0)
        self.reaches("ab:b", Lot.only("ab"), Lot.every("c"), 1, None)
        self.reaches("ab:b", lot, lot, 1, 2)

    def test_without_steps(self):
        play = self.reaches("ab:b", Lot.only("ab", "b"), Lot.only("ab", "a"), 1, 2)
        self.assertIsNotNone(play)
        self.assertEqual(self.reaches("", Lot.every("ab"), Lot.only("ba"), 0, 2).text, "ba")
        self.assertEqual(len(self.reaches("", Lot.every("ab"), Lot.only("ba"), 0, 2)), 0)
        self.reaches("", Lot.only("ab"), Lot.only("ba"), 0, None)

    def test_any_heights(self):
        form = "a:b\nb:c"
        for most in (2, 5, 8):
            for text, size in (("c", 1), ("cc", 2), ("bc", 2), ("", 0)):
                self.reaches(form, Lot.every("a"), Lot.only(text), most, size)
            self.reaches(form, Lot.every("b"), Lot.only("a"), most, None)

    def test_goal_without_a_lot_in_common(self):
        self.reaches("ab:\nba:", Lot(2, [1], [(0, "a", 1), (1, "b", 0)]), Lot.only("", "bb"), 0, None)
        self.reaches("ab:\nba:", Lot(2, [0], [(0, "a", 1), (1, "b", 0)]), Lot.only(""), 0, 0)
        self.reaches("ab:\nba:", Lot.only("abba", "abbaab"), Lot.only(""), 0, 4)


class Strays(ReachedCase):
    def strays(self, form, lot, most, size):
        book = Book.read(form)
        play = strays(book, lot, most=most)
        if size is None:
            self.assertIsNone(play)
            return None
        self.assertNotIn(signs_of(self.check_play(play, book, lot, most, size)), lot)
        return play

    def test_strays(self):
        self.strays("ab:b", Lot.only("aab"), 1, 3)
        self.strays("ab:b", Lot.only("aab", "ab"), 1, 2)
        self.strays("ab:b", Lot.only("aab", "ab", "b"), 1, None)
        self.strays("ab:b", Lot.every("ab"), 1, None)
        self.strays("ab:c", Lot.every("ab"), 1, 2)
        self.strays("a:", Lot(2, [0], [(0, "a", 1), (1, "a", 0)]), 0, 2)
        self.strays("aa:", Lot(2, [0], [(0, "a", 1), (1, "a", 0)]), 0, None)
        self.strays("", Lot.only("ab"), 0, None)
        self.strays("", Lot.only(""), 8, None)

    def test_signs_that_are_not_in_the_lot(self):
        self.assertEqual(self.strays("b:z", Lot.every("abc"), 1, 1).text, "b")
        self.strays("bc:z", Lot.every("abc"), 1, 2)
        self.strays("z:b", Lot.every("abc"), 1, None)

    def test_beginning_of_a_text_is_a_stray(self):
        self.strays("b:", Lot.only("ab"), 0, 2)
        self.strays("b:", Lot.only("ab", "a"), 0, None)
        self.strays("b:cc", Lot.only("ab", "acc", "abc"), 1, 3)
        self.strays("b:cc", Lot.only("ab", "acc"), 1, None)

    def test_a_play_has_a_step(self):
        self.assertEqual(list(self.strays("ab:b", Lot.only("aab"), 1, 3))[0], (0, 1))
        self.assertEqual(list(self.strays("ab:c", Lot.only("ab"), 1, 2)), [(0, 0)])


class Long(ReachedCase):
    def test_exactly_40_signs(self):
        book = Book.read("b:c\nac:c")
        play = reaches(book, LONG_40, Lot.only("c"), most=1)
        self.assertEqual(self.check_play(play, book, LONG_40, 1, 40), [("c", 1)])
        self.assertEqual(len(play), 40)
        play = history(book, LONG_40, Row("c", [1]), most=1)
        self.assertEqual(self.check_play(play, book, LONG_40, 1, 40), [("c", 1)])
        play = strays(Book.read("b:"), LONG_40, most=0)
        self.assertEqual(self.check_play(play, Book.read("b:"), LONG_40, 0, 40), [("a", 0)] * 39)
        play = history(Book(), Lot.every("z"), Row("z" * 40), most=0)
        self.assertEqual((play.text, len(play)), ("z" * 40, 0))
        play = reaches(Book(), Lot.every("ab"), LONG_40, most=0)
        self.assertEqual((play.text, len(play)), ("a", 0))

    def test_41_signs(self):
        book = Book.read("b:c\nac:c\nca:c")
        self.fault(TooLong, 41)(reaches, book, LONG_41, Lot.only("c"), most=1)
        self.fault(TooLong, 41)(history, book, LONG_41, Row("c", [1]), most=1)
        self.fault(TooLong, 41)(strays, Book.read("b:"), LONG_41, most=0)
        self.fault(TooLong, 41)(history, Book(), Lot.every("z"), Row("z" * 41), most=0)
        for many in (42, 100):
            self.fault(TooLong, many)(history, Book(), Lot.every("z"), Row("z" * many), most=8)

    def test_none_where_longer_texts_do_not_help(self):
        self.assertIsNone(history(Book(), Lot.every("z"), Row("z" * 50 + "y"), most=0))
        self.assertIsNone(history(Book.read("ab:b"), Lot.every("ab"), Row("b" * 50 + "a", [1] * 51), most=1))
        self.assertIsNone(reaches(Book.read("ab:b"), LONG_40, Lot.only("a" * 37 + "c"), most=1))
        self.assertIsNone(reaches(Book(), LONG_41, Lot.only("b"), most=1))
        self.assertIsNone(strays(Book.read("b:b"), Lot.only("a" * 39), most=1))
        self.assertIsNone(strays(Book.read("c:"), LONG_41, most=1))

    def test_least_where_costs_are_great(self):
        # Each `c` needs two signs `b`, each of them two signs `a`.
        book, lot = Book.read("aa:b\nbb:c"), Lot.every("a")
        for many in (1, 5, 10):
            play = history(book, lot, Row("c" * many, [2] * many), most=2)
            self.check_play(play, book, lot, 2, 4 * many)
        self.fault(TooLong, 44)(history, book, lot, Row("c" * 11, [2] * 11), most=2)
        self.fault(TooLong, 42)(history, book, lot, Row("c" * 10 + "b", [2] * 10 + [1]), most=2)
        self.assertIsNone(history(book, lot, Row("c" * 11, [2] * 10 + [1]), most=2))


class Against(ReachedCase):
    """Questions made by chance, against what is found step by step."""

    def setUp(self):
        self.counts = {}

    def compare(self, ask, found, wanted, book, lot, most, size):
        """Check a play against the least text from which a wanted row was found step by step."""
        least = found.least_where(wanted)
        try:
            play = ask()
        except TooLong as error:
            self.assertGreater(error.least, 40)
            self.assertTrue(least is None or not found.whole)
            return
        self.counts[play is None] = self.counts.get(play is None, 0) + 1
        if play is None:
            self.assertIsNone(least)
            return
        end = self.check_play(play, book, lot, most)
        self.assertTrue(wanted(tuple(end)))
        if least is not None:
            self.assertLessEqual(len(play.text), least)
        if found.whole:
            self.assertEqual(len(play.text) if len(play.text) <= size else None, least)

    def test_by_chance(self):
        for seed in range(300):
            book, lot, most = some_question(seed)
            lot = Lot.every(book.signs) if lot is None else lot
            if judge(book, most=most, lot=lot):
                self.check_question(book, lot, most, random.Random(seed))
        self.assertGreater(min(self.counts.values()), 200)

    def check_question(self, book, lot, most, chance):
        size = 4 if len(book.signs) > 2 else 5
        found = Steps(book, lot, most, size, cap=400)
        signs = book.signs or "a"
        rows = chance.sample(list(found.rows), min(4, len(found.rows)))
        rows += [tuple((chance.choice(signs), chance.randint(0, most + 1)) for _ in range(chance.randint(0, 4)))
                 for _ in range(6)]
        for row in rows:
            self.compare(lambda: history(book, lot, row_of(row), most=most), found, lambda other: other == row,
                         book, lot, most, size)
        goal = some_lot(chance, signs)
        self.compare(lambda: reaches(book, lot, goal, most=most), found, lambda other: signs_of(other) in goal,
                     book, lot, most, size)
        self.compare(lambda: strays(book, lot, most=most), found, lambda other: signs_of(other) not in lot,
                     book, lot, most, size)

    def test_all_rows_of_some_lots(self):
        counted = 0
        for form, texts in (("ab:bba\nb:", ["aabb"]), ("ab:\nba:\nc:ab", ["cac", "bcb"]), ("a:bc\ncb:\nbb:a", ["aab"]),
                            ("aab:ba\nb:c\nca:", ["aabab", "bab"]), ("abc:\nca:b\nb:c", ["aabcbc", "abcabc"])):
            book, lot = Book.read(form), Lot.only(*texts)
            for most in range(4):
                if machine_size(book, lot, most=most) > 300 or not judge(book, most=most, lot=lot):
                    continue
                counted += 1
                found = Steps(book, lot, most, 9, cap=20000)
                self.assertTrue(found.whole)
                for row, size in list(found.rows.items())[:60]:
                    play = history(book, lot, row_of(row), most=most)
                    self.assertEqual(tuple(self.check_play(play, book, lot, most, size)), row)
                for sign in "abc":
                    for height in range(most + 2):
                        self.assertEqual(history(book, lot, Row(sign, [height]), most=most) is not None,
                                         ((sign, height),) in found.rows)
        self.assertGreater(counted, 5)


class LaterChanges(ReachedCase):
    def test_book_changed_after_a_play_was_found(self):
        book, lot = Book.read("ab:b\nb:c"), Lot.only("aab")
        same = Book.read("ab:b\nb:c")
        plays = [history(book, lot, Row("c", [2]), most=2), reaches(book, lot, Lot.only("ac"), most=2),
                 strays(book, lot, most=2)]
        book.drop(0)
        book.add(Rule("a", "zz"))
        for play in plays:
            self.check_play(play, same, lot, 2, 3)
        self.assertIsNone(history(book, lot, Row("b", [1]), most=2))
        self.assertIn(Row("zzac", [1, 1, 0, 1]), comes(book, lot, most=2))


if __name__ == "__main__":
    unittest.main()
