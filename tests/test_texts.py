"""watchtree.texts: the texts of plans."""

import unittest

from tests.histories import root_by_chance, seeded
from tests.samples import NO_STRINGS, chain_of, plan_of, workers_of
from watchtree.errors import BadText
from watchtree.plans import SupervisorPlan, WorkerPlan
from watchtree.texts import plan_text, read_plan

WORKER = "worker a permanent 0 0 - 0"
SUPERVISOR = "supervisor s permanent one 1 10 -"

# For each word of a line behind the first one: words that can stand there, and words that cannot.
NAMES = (("a", "z9_", "b" * 20, "worker", "one"),
         ("", "A", "1a", "_a", "b" * 21, "own", "sender", "about", "a-b", "-", "a\t", "\u00e9", "a\r"))
RESTARTS = (("permanent", "transient", "temporary"), ("", "Permanent", "permanen", "one", "0", "-", "never"))
STRATEGIES = (("one", "rest", "all"), ("", "One", "none", "permanent", "1", "-"))
NO_NUMBERS = ("", "00", "01", "+1", "-1", "--", "1_0", "1.0", "1e3", "a", "0x1", " 1", "1\t", "\u0661", "\uff11",
              "\u00b2", "0000000001", "00000000000001", "1" * 11, "9" * 5000, "None", "1-", "10 000")
TICKS = (("0", "1", "10", "999999999", "1000000000"), NO_NUMBERS + ("-", "1000000001", "9999999999"))
DEADLINES = (("-",) + TICKS[0], NO_NUMBERS + ("1000000001", "none"))
REFUSED = (("0", "1", "99", "100"), NO_NUMBERS + ("-", "101"))
MOST = (("0", "1", "20"), NO_NUMBERS + ("-", "21"))
SPANS = (("1", "10", "1000000000"), NO_NUMBERS + ("-", "0", "1000000001"))
WORKER_WORDS = (NAMES, RESTARTS, TICKS, TICKS, DEADLINES, REFUSED)
SUPERVISOR_WORDS = (NAMES, RESTARTS, STRATEGIES, MOST, SPANS, DEADLINES)

EXAMPLE = SupervisorPlan(
    "root", WorkerPlan("a", restart="transient", opening=1, closing=20, deadline=300, refused=4),
    SupervisorPlan("s", SupervisorPlan("t", WorkerPlan("b"), most=0, span=1), WorkerPlan("c"), restart="temporary",
                   strategy="rest", most=20, span=10 ** 9, deadline=0),
    WorkerPlan("d", deadline=10 ** 9), strategy="all")
EXAMPLE_LINES = (
    "supervisor root permanent all 1 10 -",
    "  worker a transient 1 20 300 4",
    "  supervisor s temporary rest 20 1000000000 0",
    "    supervisor t permanent one 0 1 -",
    "      worker b permanent 0 0 - 0",
    "    worker c permanent 0 0 - 0",
    "  worker d permanent 0 0 1000000000 0",
)


def with_word(line, at, word):
    """A line in which one word is another one."""
    words = line.split(" ")
    words[at] = word
    return " ".join(words)


class Texts(unittest.TestCase):
    def test_the_lines_of_a_plan(self):
        self.assertEqual(plan_text(EXAMPLE), "\n".join(EXAMPLE_LINES))
        self.assertEqual(plan_text(plan=WorkerPlan("a")), WORKER)
        self.assertEqual(plan_text(SupervisorPlan("s")), SUPERVISOR)

    def test_reading_is_the_reverse(self):
        self.assertEqual(read_plan("\n".join(EXAMPLE_LINES)), EXAMPLE)
        self.assertEqual(read_plan(text=WORKER), WorkerPlan("a"))
        self.assertEqual(read_plan(SUPERVISOR), SupervisorPlan("s"))
        for plan in (chain_of(20), plan_of(157), SupervisorPlan("s", *workers_of("w", 12))):
            self.assertEqual(read_plan(plan_text(plan)), plan)
        for seed in range(200):
            plan = root_by_chance(seeded(seed))
            text = plan_text(plan)
            self.assertEqual(read_plan(text), plan)
            self.assertEqual(plan_text(read_plan(text)), text)

    def test_names_may_occur_again(self):
        plan = SupervisorPlan("a", WorkerPlan("a"), SupervisorPlan("a", WorkerPlan("a")))
        self.assertEqual(read_plan(plan_text(plan)), plan)


class WrongTexts(unittest.TestCase):
    def check_bad(self, text, line):
        with self.assertRaises(BadText) as caught:
            read_plan(text)
        self.assertEqual(caught.exception.line, line)

    def test_no_string(self):
        for value in NO_STRINGS + ([WORKER], (WORKER,), WORKER.encode(), EXAMPLE):
            self.check_bad(value, 0)

    def test_the_empty_text_has_one_line(self):
        self.check_bad("", 1)

    def test_a_newline_at_the_end_has_an_empty_line_behind_it(self):
        self.check_bad(WORKER + "\n", 2)
        self.check_bad("\n", 1)
        self.check_bad("\n" + WORKER, 1)
        self.check_bad("\n".join(EXAMPLE_LINES) + "\n", 8)
        self.check_bad("\n".join(EXAMPLE_LINES[:3]) + "\n\n" + "\n".join(EXAMPLE_LINES[3:]), 4)

    def test_each_word_of_a_line(self):
        for line, kinds in ((WORKER, WORKER_WORDS), (SUPERVISOR, SUPERVISOR_WORDS)):
            for at, (right, wrong) in enumerate(kinds, 1):
                for word in right:
                    with self.subTest(line, at=at, word=word):
                        text = with_word(line, at, word)
                        self.assertEqual(plan_text(read_plan(text)), text)
                for word in wrong:
                    with self.subTest(line, at=at, word=word[:30]):
                        self.check_bad(with_word(line, at, word), 1)

    def test_each_word_of_each_line_of_a_text(self):
        for number, line in enumerate(EXAMPLE_LINES, 1):
            indent = (len(line) - len(line.lstrip(" "))) * " "
            for at in range(7):
                for word in ("", "?", "X1"):
                    changed = indent + with_word(line.lstrip(" "), at, word)
                    lines = EXAMPLE_LINES[:number - 1] + (changed,) + EXAMPLE_LINES[number:]
                    self.check_bad("\n".join(lines), number)

    def test_the_first_word(self):
        for line in (WORKER, SUPERVISOR):
            for word in ("", "Worker", "workers", "supervisors", "plan", "root", "-", "0"):
                self.check_bad(with_word(line, 0, word), 1)
        self.check_bad(with_word(WORKER, 0, "supervisor"), 1)
        self.check_bad(with_word(SUPERVISOR, 0, "worker"), 1)

    def test_the_number_of_words(self):
        for line in (WORKER, SUPERVISOR):
            words = line.split(" ")
            for many in range(7):
                self.check_bad(" ".join(words[:many]), 1)
            self.check_bad(line + " 0", 1)
            self.check_bad(line + " -", 1)

    def test_spaces(self):
        for line in (WORKER, SUPERVISOR):
            self.check_bad(line + " ", 1)
            self.check_bad(line + "  ", 1)
            self.check_bad(line + "\t", 1)
            self.check_bad(line + "\r", 1)
            self.check_bad(line.replace(" ", "\t"), 1)
            for at in range(1, 7):
                words = line.split(" ")
                self.check_bad(" ".join(words[:at]) + "  " + " ".join(words[at:]), 1)
            for end in ("\r\n", "\x0b", "\x0c", "\x1c", "\u2028", "\x85", "\r"):
                self.check_bad(SUPERVISOR + end + "  " + line, 1)

    def test_indents(self):
        for line in (WORKER, SUPERVISOR):
            for indent in (" ", "  ", "   ", "    ", "\t"):
                self.check_bad(indent + line, 1)
            for indent in ("", " ", "   ", "    ", "      ", "\t", " \t", "\u00a0\u00a0"):
                self.check_bad(SUPERVISOR + "\n" + indent + line, 2)
            self.assertEqual(len(read_plan(SUPERVISOR + "\n  " + line)), 2)

    def test_no_other_line_has_the_first_level(self):
        for line in (WORKER, SUPERVISOR):
            self.check_bad(WORKER + "\n" + line, 2)
            self.check_bad(SUPERVISOR + "\n  " + WORKER + "\n" + line, 3)
            self.check_bad("\n".join(EXAMPLE_LINES) + "\n" + line, 8)

    def test_the_level_below_the_nearest_line_above_with_a_smaller_level(self):
        lines = [SUPERVISOR, "  " + SUPERVISOR, "    " + SUPERVISOR, "    " + WORKER]
        for line in (WORKER, SUPERVISOR):
            for depth, is_right in ((0, False), (1, True), (2, True), (3, False), (4, False), (5, False)):
                text = "\n".join(lines + ["  " * depth + line])
                if is_right:
                    self.assertEqual(plan_text(read_plan(text)), text)
                else:
                    self.check_bad(text, 5)
            # Behind the line of a supervisor, its own children may follow.
            for depth, is_right in ((0, False), (1, True), (2, True), (3, True), (4, False)):
                text = "\n".join(lines[:3] + ["  " * depth + line])
                if is_right:
                    self.assertEqual(plan_text(read_plan(text)), text)
                else:
                    self.check_bad(text, 4)
        self.check_bad(WORKER + "\n  " + WORKER, 2)

    def test_at_most_twelve_children(self):
        for child in (WORKER, SUPERVISOR):
            lines = [SUPERVISOR] + ["  " + child] * 12
            self.assertEqual(len(read_plan("\n".join(lines))), 13)
            self.check_bad("\n".join(lines + ["  " + WORKER]), 14)
            self.check_bad("\n".join(lines + ["  " + SUPERVISOR]), 14)
        deep = [SUPERVISOR] + (["  " + SUPERVISOR] + ["    " + WORKER] * 12) * 12
        self.assertEqual(len(read_plan("\n".join(deep))), 157)
        self.check_bad("\n".join(deep + ["    " + WORKER]), 158)
        self.check_bad("\n".join(deep + ["  " + WORKER]), 158)
        self.check_bad("\n".join(deep[:14] + ["    " + WORKER]), 15)

    def test_at_most_twenty_levels(self):
        lines = ["  " * depth + SUPERVISOR for depth in range(19)]
        for line in (WORKER, SUPERVISOR):
            self.assertEqual(len(read_plan("\n".join(lines + ["  " * 19 + line]))), 20)
            self.check_bad("\n".join(lines + ["  " * 19 + SUPERVISOR, "  " * 20 + line]), 21)

    def test_at_most_two_hundred_lines(self):
        # Four levels, as no supervisor has more than twelve children.
        full = [SUPERVISOR]
        for _ in range(12):
            full.append("  " + SUPERVISOR)
            for _ in range(12):
                full.append("    " + SUPERVISOR)
                if len(full) < 180:
                    full.extend(["      " + WORKER] * 2)
        self.assertGreater(len(full), 201)
        self.assertEqual(len(read_plan("\n".join(full[:200]))), 200)
        self.check_bad("\n".join(full[:201]), 201)
        self.check_bad("\n".join(full), 201)
        self.check_bad("\n".join(full[:200] + [""]), 201)

    def test_the_first_wrong_line_is_told(self):
        lines = list(EXAMPLE_LINES)
        for number in range(len(lines), 0, -1):
            lines[number - 1] = "x" + lines[number - 1]
            self.check_bad("\n".join(lines), number)


if __name__ == "__main__":
    unittest.main()
