"""watchtree.scripts: which values are deeds and scripts, and which row a script has."""

import unittest

from tests.samples import (ALL_KINDS, DEED_NAMES, GOOD_WORDS, NO_INTEGERS, NO_STRINGS, NO_TUPLES, NO_WORDS,
                           TREE_REASONS, TREE_WORDS, EqualToAll)
from watchtree.errors import BadScript
from watchtree.plans import SupervisorPlan, WorkerPlan
from watchtree.scripts import MOST_DEEDS, MOST_ROWS, MOST_WAITING, is_deed, is_script, row_for, words_of, wrong_row

ADDER = WorkerPlan("adder", script=(("first", "start", 1, (("add", "root", WorkerPlan("x")),)),))
LATE_ADDER = WorkerPlan("late", script=(
    ("first", "start", 1, (("note", "a"),)),
    ("first", "go", 1, (("note", "b"), ("add", "root", WorkerPlan("x")))),
))
REMOVER = WorkerPlan("remover", script=(("first", "add", 1, (("note", "add"), ("remove", "add"))),))

LARGEST = 10 ** 12

# For each kind of item: values that it can have, and values that it cannot.
NAMES = (GOOD_WORDS + DEED_NAMES + TREE_WORDS, NO_WORDS)
WORDS = (GOOD_WORDS + DEED_NAMES + TREE_WORDS + TREE_REASONS, NO_WORDS)
SENT_WORDS = (GOOD_WORDS + DEED_NAMES + ("shutdown", "answers", "tol", "ended_"), NO_WORDS + TREE_WORDS)
INTEGERS = (0, 1, -1, LARGEST, -LARGEST)
NO_VALUES = (LARGEST + 1, -LARGEST - 1, 10 ** 30)
VALUES = (
    INTEGERS + tuple(("plus", amount) for amount in INTEGERS),
    NO_VALUES + NO_INTEGERS + tuple(("plus", amount) for amount in NO_VALUES + NO_INTEGERS) + (
        ("plus",), ("plus", 1, 1), (1, "plus"), ("minus", 1), ("Plus", 1), ("", 1), (EqualToAll(), 1), (None, 1),
        ["plus", 1], (["plus"], 1), ("plus", ("plus", 1)), ("plus", (1,)), (1,), (1, 1)),
)
TICKS = ((1, 2, 10 ** 9), (0, -1, 10 ** 9 + 1, 10 ** 12) + NO_INTEGERS)
TRUTHS = ((True, False), tuple(value for value in ALL_KINDS if not isinstance(value, bool)) + ("true", "on"))
REASONS = (GOOD_WORDS + DEED_NAMES + ("answer", "failed", "kill", "killed_"), NO_WORDS + TREE_REASONS)
PLANS = (
    (WorkerPlan("a"), WorkerPlan("b", restart="temporary", refused=3), REMOVER),
    (SupervisorPlan("s"), SupervisorPlan("s", WorkerPlan("a")), ADDER, LATE_ADDER, WorkerPlan, "a_plan",
     [WorkerPlan("a")], (WorkerPlan("a"),)) + ALL_KINDS,
)

# For each sort of deed: the kinds of its items, and a right deed.
SORTS = (
    ((WORDS,), ("note", "done")),
    ((NAMES, SENT_WORDS, VALUES), ("send", "a", "hello", 0)),
    ((NAMES, SENT_WORDS, VALUES), ("ask", "own", "q", ("plus", -3))),
    ((VALUES,), ("reply", ("plus", 1))),
    ((TICKS, SENT_WORDS, VALUES), ("later", 5, "wake", 7)),
    ((WORDS,), ("cancel", "wake")),
    ((NAMES,), ("link", "sender")),
    ((NAMES,), ("unlink", "a")),
    ((NAMES,), ("monitor", "about")),
    ((NAMES,), ("unmonitor", "a")),
    ((TRUTHS,), ("trap", True)),
    ((WORDS,), ("mode", "second")),
    ((REASONS,), ("end", "normal")),
    ((NAMES, PLANS), ("add", "root", WorkerPlan("x"))),
    ((NAMES,), ("remove", "x")),
)
DEEDS = tuple(deed for _, deed in SORTS)
ROW = ("first", "start", 1, ())
SCRIPT = (
    ("first", "start", 1, (("note", "a"), ("mode", "second"))),
    ("second", "start", 1000, DEEDS[:8]),
    ("first", "answer", 3, ()),
    ("second", "b", 2, DEEDS[8:]),
)


def with_item(values, at, item):
    """A copy of a tuple in which one item is another one."""
    return values[:at] + (item,) + values[at + 1:]


def rows_of(many):
    """So many right rows."""
    return tuple((f"mode{at // 7}", f"word{at - at // 7 * 7}", 1, ()) for at in range(many))


class Constants(unittest.TestCase):
    def test_constants(self):
        self.assertEqual((MOST_ROWS, MOST_DEEDS, MOST_WAITING), (30, 8, 200))


class Deeds(unittest.TestCase):
    def test_a_right_one_of_each_sort(self):
        for deed in DEEDS:
            with self.subTest(deed[0]):
                self.assertIs(is_deed(deed), True)
                self.assertIs(is_deed(value=deed), True)

    def test_each_item_can_be_each_right_value(self):
        for kinds, deed in SORTS:
            for at, (right, _) in enumerate(kinds, 1):
                for item in right:
                    with self.subTest(deed[0], at=at, item=item):
                        self.assertIs(is_deed(with_item(deed, at, item)), True)

    def test_no_item_can_be_a_wrong_value(self):
        for kinds, deed in SORTS:
            for at, (_, wrong) in enumerate(kinds, 1):
                for index, item in enumerate(wrong):
                    with self.subTest(deed[0], at=at, index=index):
                        self.assertIs(is_deed(with_item(deed, at, item)), False)

    def test_the_number_of_items(self):
        for deed in DEEDS:
            with self.subTest(deed[0]):
                self.assertIs(is_deed(deed[:-1]), False)
                self.assertIs(is_deed(deed[:1]), False)
                for more in ("a", 1, 0, True, None, WorkerPlan("a")):
                    self.assertIs(is_deed(deed + (more,)), False)

    def test_the_sort(self):
        for _, (sort, *items) in SORTS:
            for wrong in NO_STRINGS + ("", sort.upper(), sort + "s", sort[:-1], " " + sort, "start", "kill", "stop"):
                self.assertIs(is_deed((wrong, *items)), False)

    def test_a_deed_is_a_tuple(self):
        for deed in DEEDS:
            with self.subTest(deed[0]):
                self.assertIs(is_deed(list(deed)), False)
                self.assertIs(is_deed((deed,)), False)
                self.assertIs(is_deed(deed[0]), False)
        for value in ALL_KINDS:
            self.assertIs(is_deed(value), False)

    def test_the_words_of_the_tree_are_not_sent_but_can_be_all_else(self):
        for word in TREE_WORDS:
            for deed in (("cancel", word), ("mode", word), ("note", word), ("link", word), ("end", word)):
                self.assertIs(is_deed(deed), True)
            for deed in (("send", "a", word, 1), ("ask", "a", word, 1), ("later", 1, word, 1)):
                self.assertIs(is_deed(deed), False)


class Scripts(unittest.TestCase):
    def check_wrong(self, script, index):
        """The script is wrong at this row, as all four functions tell."""
        self.assertEqual(wrong_row(script), index)
        self.assertIs(is_script(script), False)
        for call in (lambda: row_for(script, "first", "start"), lambda: words_of(script)):
            with self.assertRaises(BadScript) as told:
                call()
            self.assertEqual(told.exception.index, index)

    def check_right(self, script):
        self.assertIsNone(wrong_row(script))
        self.assertIs(is_script(script), True)
        words_of(script)

    def test_right_scripts(self):
        for script in ((), (ROW,), SCRIPT, rows_of(29), rows_of(30)):
            with self.subTest(rows=len(script)):
                self.check_right(script)
        self.assertIsNone(wrong_row(script=SCRIPT))
        self.assertIs(is_script(value=SCRIPT), True)

    def test_a_script_is_a_tuple(self):
        for value in NO_TUPLES + ([], [ROW], list(SCRIPT), WorkerPlan("a"), {ROW: True}):
            self.assertIs(is_script(value), False)
            for call in (lambda: wrong_row(value), lambda: row_for(value, "first", "start"), lambda: words_of(value)):
                with self.assertRaises(BadScript) as told:
                    call()
                self.assertIsNone(told.exception.index)

    def test_each_item_of_a_row(self):
        right = (GOOD_WORDS + DEED_NAMES + TREE_WORDS, GOOD_WORDS + DEED_NAMES + TREE_WORDS, (1, 2, 999, 1000),
                 ((), DEEDS[:8], DEEDS[7:15], (("note", "a"),) * 8, (("end", "normal"), ("note", "a"))))
        wrong = (NO_WORDS, NO_WORDS, (0, -1, 1001, 10 ** 9) + NO_INTEGERS,
                 NO_TUPLES + ([("note", "a")], DEEDS[:9], (("note", "a"),) * 9, ("note", "a"), (("note",),), ((),),
                              (("note", "a"), ["note", "a"]), (("note", "a"), None), (("sent", "a"),),
                              (("note", "a"),) * 7 + (("note", "A"),)))
        for at in range(4):
            for item in right[at]:
                with self.subTest(at=at, item=item):
                    self.check_right((with_item(ROW, at, item),))
            for index, item in enumerate(wrong[at]):
                with self.subTest(at=at, index=index):
                    self.check_wrong((with_item(ROW, at, item),), 0)
                    self.check_wrong(rows_of(3) + (with_item(ROW, at, item),) + SCRIPT, 3)

    def test_a_row_is_a_tuple_of_four_items(self):
        for row in ALL_KINDS + (ROW[:3], ROW[:2], ROW + ((),), ROW + (1,), list(ROW), (ROW,), (ROW, ROW, ROW, ROW),
                                WorkerPlan("a")):
            self.check_wrong((row,), 0)
            self.check_wrong((ROW, row), 1)

    def test_no_two_rows_have_the_same_mode_and_word(self):
        other = ("first", "start", 7, (("note", "a"),))
        self.check_wrong((ROW, ROW), 1)
        self.check_wrong((ROW, other), 1)
        self.check_wrong(rows_of(28) + (ROW, other), 29)
        self.check_wrong((ROW,) + rows_of(28) + (other,), 29)
        self.check_right((ROW, ("second", "start", 1, ()), ("first", "begin", 1, ()), ("start", "first", 1, ())))
        self.check_right((("a", "bc", 1, ()), ("ab", "c", 1, ())))

    def test_a_script_has_at_most_thirty_rows(self):
        for many in (31, 32, 40):
            self.check_wrong(rows_of(many), 30)
        self.check_wrong(rows_of(30) + (None,), 30)
        self.check_wrong(rows_of(29) + (None,) + rows_of(2), 29)

    def test_the_first_wrong_row_is_told(self):
        bad = ("first", "start", 0, ())
        self.check_wrong((bad, None), 0)
        self.check_wrong((ROW, None, ROW, bad), 1)
        self.check_wrong((ROW, ROW, None), 1)
        self.check_wrong(rows_of(40)[:20] + (bad,) + rows_of(40), 20)

    def test_a_wrong_row_takes_no_mode_and_word(self):
        self.check_wrong((("first", "start", 0, ()), ROW), 0)


class Rows(unittest.TestCase):
    def test_each_row_is_found(self):
        for script in (SCRIPT, rows_of(30), (ROW,)):
            for row in script:
                self.assertIs(row_for(script, row[0], row[1]), row)
                self.assertIs(row_for(script=script, mode=row[0], word=row[1]), row)

    def test_other_rows_are_not_there(self):
        for mode, word in (("first", "b"), ("second", "answer"), ("start", "first"), ("third", "start"),
                           ("first", "starts")):
            self.assertIsNone(row_for(SCRIPT, mode, word))
        self.assertIsNone(row_for((), "first", "start"))

    def test_mode_and_word_can_be_of_any_kind(self):
        for value in ALL_KINDS + NO_WORDS:
            if not isinstance(value, str) or value != "first":
                self.assertIsNone(row_for(SCRIPT, value, "start"))
            self.assertIsNone(row_for(SCRIPT, "first", value))
            self.assertIsNone(row_for((), value, value))

    def test_the_script_is_checked_for_any_mode_and_word(self):
        for value in ALL_KINDS:
            with self.assertRaises(BadScript) as told:
                row_for((ROW, ROW), value, value)
            self.assertEqual(told.exception.index, 1)


class Words(unittest.TestCase):
    def test_words_are_ascending_and_different(self):
        self.assertEqual(words_of(SCRIPT), ("answer", "b", "start"))
        self.assertEqual(words_of(script=rows_of(30)), tuple(f"word{at}" for at in range(7)))
        told = ("b", "a_", "a", "aa", "a1", "b0", "a")
        script = tuple((f"mode{at}", word, 1, ()) for at, word in enumerate(told))
        self.assertEqual(words_of(script), ("a", "a1", "a_", "aa", "b", "b0"))

    def test_no_rows_no_words(self):
        self.assertEqual(words_of(()), ())


if __name__ == "__main__":
    unittest.main()
