"""watchtree.trees: the entries and their causes (9.2, 15)."""

import unittest

from tests.histories import history_by_chance, scripted_root, seeded
from tests.telling import TreeCase, log_of, ran, root, row, told_with_causes, worker
from watchtree.plans import SupervisorPlan, WorkerPlan
from watchtree.trees import Tree


def chain(tree, number):
    """The numbers of an entry, of its cause, and so on."""
    found = []
    while number > 0:
        found.append(number)
        number = log_of(tree)[number - 1][2]
    return tuple(found)


class Causes(TreeCase):
    def check_causes(self, tree, text, since=0):
        self.assertEqual(told_with_causes(tree, since), [line.strip() for line in text.strip().splitlines()])

    def test_a_start_and_a_mend(self):
        tree = ran(root(WorkerPlan("a"), WorkerPlan("b", opening=2)), 3)
        tree.fail("a")
        tree.run(9)
        self.check_causes(tree, """
            1 0 input start ()
            2 1 started 1 root 0
            3 1 started 2 a 1
            4 3 running 2
            5 4 started 3 b 1
            6 5 running 3
            7 6 running 1
            8 0 input fail ('a', 'failed')
            9 8 ended 2 failed
            10 8 restart 1 a
            11 10 started 4 a 1
            12 11 running 4
            """)

    def test_entries_hold_their_tick_and_tuples(self):
        tree = ran(root(WorkerPlan("a", opening=3)), 9)
        tree.fail("a", "crash")
        self.assertEqual(log_of(tree), [
            (1, 0, 0, "input", ("start", ())), (2, 0, 1, "started", (1, "root", 0)), (3, 0, 1, "started", (2, "a", 1)),
            (4, 3, 3, "running", (2,)), (5, 3, 4, "running", (1,)), (6, 9, 0, "input", ("fail", ("a", "crash"))),
            (7, 9, 6, "ended", (2, "crash"))])

    def test_each_input_has_its_entry_with_all_arguments(self):
        tree = ran(root(WorkerPlan("a", closing=1), most=9), 1)
        plan = WorkerPlan("x")
        tree.fail("a")
        tree.fail(place="a", reason="crash")
        tree.send("a", "go")
        tree.send(value=4, word="go", place="a")
        tree.ask("a", "go")
        tree.ask("root", "go", -1)
        tree.add("root", plan)
        tree.take_out(place="root")
        tree.stop()
        tree.stop()
        self.assertEqual([entry[4] for entry in log_of(tree) if entry[3] == "input"], [
            ("start", ()), ("fail", ("a", "failed")), ("fail", ("a", "crash")), ("send", ("a", "go", 0)),
            ("send", ("a", "go", 4)), ("ask", ("a", "go", 0)), ("ask", ("root", "go", -1)), ("add", ("root", plan)),
            ("take_out", ("root",)), ("stop", ()), ("stop", ())])

    def test_a_question_and_its_answer(self):
        # The deeds of a row come before its work: the message of a arrives ahead of the end of its work.
        asks = worker("a", row("start", ("ask", "b", "q", 5)), row("answer", ("note", "done")))
        tree = ran(root(asks, worker("b", row("q", ("reply", ("plus", 1)), work=3))), 9)
        self.check_causes(tree, """
            1 0 input start ()
            2 1 started 1 root 0
            3 1 started 2 a 1
            4 3 running 2
            5 4 sent 1 ask 2 b q 5
            6 4 started 3 b 1
            7 6 running 3
            8 7 running 1
            9 4 arrived 1 3
            10 4 idle 2
            11 9 taken 1 3
            12 11 answered 1
            13 11 sent 2 answer 3 2 answer 6
            14 11 arrived 2 2
            15 14 taken 2 2
            16 15 noted 2 done
            17 15 idle 2
            18 11 idle 3
            """)
        self.assertEqual(chain(tree, 16), (16, 15, 14, 11, 9, 4, 3, 1))

    def test_each_further_entry_of_a_step_is_caused_by_the_first_one(self):
        deeds = (("note", "x"), ("link", "b"), ("monitor", "b"), ("trap", True), ("mode", "m"), ("later", 5, "y", 0),
                 ("cancel", "y"), ("note", "z"))
        inner = SupervisorPlan("s", worker("a", row("go", *deeds)), WorkerPlan("b", closing=9), deadline=1)
        tree = ran(root(inner), 1)
        tree.send("a", "go")
        tree.run(3)
        self.check_causes(tree, """
            10 0 input send ('a', 'go', 0)
            11 10 sent 1 send None a go 0
            12 10 arrived 1 3
            13 12 taken 1 3
            14 13 noted 3 x
            15 13 linked 3 4
            16 13 watched 3 4
            17 13 trap 3 True
            18 13 mode 3 m
            19 13 timer 3 7 y 0
            20 13 cancelled 3 y
            21 13 noted 3 z
            22 13 idle 3
            """, 9)
        tree.take_out("s")
        tree.run(9)
        # The deadline was put by the step that began to remove s, whose first entry is that s is closing. The step
        # of the deadline puts the one by which a is told.
        self.check_causes(tree, """
            23 0 input take_out ('s',)
            24 23 closing 2
            25 24 closing 4
            26 24 ended 4 killed
            27 26 ended 3 killed
            28 26 ended 2 killed
            29 26 sent 2 down None 3 down 4
            30 26 removed 1 s
            31 29 dropped 2
            """, 22)

    def test_a_step_without_an_entry_hands_its_cause_on(self):
        # The notice of a has no entry; the order that it gives begins behind the running of b, and is caused by 6.
        tree = ran(root(WorkerPlan("a"), WorkerPlan("b", opening=3), most=3), 1)
        tree.fail("a")
        tree.run(9)
        self.check_causes(tree, """
            6 0 input fail ('a', 'failed')
            7 6 ended 2 failed
            8 5 running 3
            9 8 running 1
            10 9 restart 1 a
            11 10 started 4 a 1
            12 11 running 4
            """, 5)

    def test_a_deadline_of_a_process_that_was_closing(self):
        # The stop of the root asks inner once more, which has no entry for this: the deadline has its cause.
        inner = SupervisorPlan("inner", WorkerPlan("v", closing=50), WorkerPlan("w"), most=0, deadline=3)
        tree = ran(root(inner), 1)
        tree.fail("w")
        tree.run(5)
        tree.stop()
        tree.run(9)
        self.check_causes(tree, """
            15 0 input stop ()
            16 15 closing 1
            17 15 ended 3 killed
            18 17 ended 2 killed
            19 17 ended 1 shutdown
            """, 14)

    def test_told_and_what_follows_in_its_step(self):
        # Both the next order and the message are of the step that has taken the place out.
        plan = root(worker("a", row("go", ("remove", "b"), ("remove", "c"))), WorkerPlan("b"), WorkerPlan("c"))
        tree = ran(plan, 1)
        tree.send("a", "go")
        since = tree.entries_count
        tree.run(9)
        self.check_causes(tree, f"""
            {since + 1} {since - 1} arrived 1 2
            {since + 2} {since + 1} taken 1 2
            {since + 3} {since + 2} closing 3
            {since + 4} {since + 3} ended 3 shutdown
            {since + 5} {since + 4} removed 1 b
            {since + 6} {since + 5} sent 2 told None 2 told 1
            {since + 7} {since + 5} closing 4
            {since + 8} {since + 7} ended 4 shutdown
            {since + 9} {since + 8} removed 1 c
            {since + 10} {since + 9} sent 3 told None 2 told 1
            {since + 11} {since + 2} idle 2
            {since + 12} {since + 5} arrived 2 2
            {since + 13} {since + 9} arrived 3 2
            """, since)

    def test_an_order_that_is_not_the_first_one_any_more_when_it_begins(self):
        # s is asked to stop between the notice of x, which puts the beginning of its mend, and this: y closes by the
        # removal of s alone.
        inner = SupervisorPlan("s", worker("x", row("go", ("end", "failed"))), WorkerPlan("y", closing=1))
        tree = ran(root(inner, worker("e", row("go", ("remove", "s")))), 1)
        tree.send("x", "go")
        tree.send("e", "go")
        tree.run(2)
        self.check_causes(tree, """
            12 0 input send ('x', 'go', 0)
            13 12 sent 1 send None x go 0
            14 0 input send ('e', 'go', 0)
            15 14 sent 2 send None e go 0
            16 12 arrived 1 3
            17 14 arrived 2 5
            18 16 taken 1 3
            19 18 ended 3 failed
            20 17 taken 2 5
            21 20 closing 2
            22 21 closing 4
            """, 11)

    def test_a_message_is_taken_by_what_makes_it_fit(self):
        # The first message is waiting when the worker becomes idle, of the others the one that fits brings its taking.
        tree = ran(root(worker("a", row("start", ("send", "own", "go", 0)), row("go"))), 5)
        tree.send("a", "no")
        tree.send("a", "go")
        tree.run(9)
        self.check_causes(tree, """
            4 3 running 2
            5 4 sent 1 send 2 a go 0
            6 4 running 1
            7 4 arrived 1 2
            8 4 idle 2
            9 8 taken 1 2
            10 9 idle 2
            11 0 input send ('a', 'no', 0)
            12 11 sent 2 send None a no 0
            13 0 input send ('a', 'go', 0)
            14 13 sent 3 send None a go 0
            15 11 arrived 2 2
            16 13 arrived 3 2
            17 16 taken 3 2
            18 17 idle 2
            """, 3)

    def test_refused_inputs_have_no_entry(self):
        tree = ran(root(WorkerPlan("a")), 1)
        count = tree.entries_count
        for call, arguments in ((tree.fail, ("no",)), (tree.fail, ("root",)), (tree.fail, ("a", "killed")),
                                (tree.send, ("a", "told")), (tree.ask, ("a", "go", None)), (tree.add, ("a", 1)),
                                (tree.take_out, ("x",))):
            self.assertRaises((ValueError, RuntimeError, LookupError), call, *arguments)
        self.assertEqual(tree.entries_count, count)

    def test_entries_of_trees_by_chance(self):
        for seed in range(60):
            chance = seeded(seed)
            tree = Tree(scripted_root(chance))
            history_by_chance(chance, tree, 40)
            log = log_of(tree)
            self.assertEqual([entry[0] for entry in log], list(range(1, tree.entries_count + 1)))
            self.assertEqual([entry[1] for entry in log], sorted(entry[1] for entry in log))
            for number, _, cause, word, data in log:
                self.assertTrue(0 <= cause < number)
                self.assertEqual(cause == 0, word == "input")
                self.assertIsInstance(data, tuple)


if __name__ == "__main__":
    unittest.main()
