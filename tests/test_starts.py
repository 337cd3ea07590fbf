"""watchtree.trees: places, processes, and how they start (5, 6)."""

import unittest

from tests.telling import TreeCase, ran, root, row, told, worker
from watchtree.plans import SupervisorPlan, WorkerPlan
from watchtree.trees import Tree


class Starts(TreeCase):
    def test_children_start_in_order_one_after_the_other(self):
        pair = SupervisorPlan("pair", WorkerPlan("b"), WorkerPlan("c", opening=1))
        tree = ran(root(WorkerPlan("a", opening=2), pair, WorkerPlan("d")), 9)
        self.check_log(tree, """
            0 input start ()
            0 started 1 root 0
            0 started 2 a 1
            2 running 2
            2 started 3 pair 1
            2 started 4 b 3
            2 running 4
            2 started 5 c 3
            3 running 5
            3 running 3
            3 started 6 d 1
            3 running 6
            3 running 1
            """)

    def test_states_on_the_way(self):
        pair = SupervisorPlan("pair", WorkerPlan("b"), WorkerPlan("c", opening=1))
        tree = ran(root(WorkerPlan("a", opening=2), pair, WorkerPlan("d")), 1)
        places = ("root", "a", "pair", "b", "c", "d")
        states = [[tree.state_of(place) for place in places]]
        for tick in (2, 3):
            tree.run(tick)
            states.append([tree.state_of(place) for place in places])
        self.assertEqual(states, [
            ["opening", "opening", None, None, None, None],
            ["opening", "running", "opening", "running", "opening", None],
            ["running"] * 6,
        ])
        self.assertEqual([tree.number_of(place) for place in places], [1, 2, 3, 4, 5, 6])
        self.assertEqual([tree.starts_of(place) for place in places], [1] * 6)

    def test_a_root_without_children_runs_at_once(self):
        self.check_log(ran(root()), """
            0 input start ()
            0 started 1 root 0
            0 running 1
            """)

    def test_the_start_is_executed_at_once_and_its_steps_wait(self):
        tree = Tree(root(WorkerPlan("a")))
        self.check_log(tree, """
            0 input start ()
            0 started 1 root 0
            """)
        self.assertEqual((tree.next_tick, tree.state_of("root"), tree.state_of("a")), (0, "opening", None))

    def test_each_start_makes_a_process_with_the_next_number(self):
        tree = ran(root(WorkerPlan("a"), WorkerPlan("b"), most=5))
        for number in (4, 5, 6):
            tree.fail("a")
            self.assertEqual((tree.number_of("a"), tree.state_of("a")), (number - 1 if number > 4 else 2, "ended"))
            tree.run(tree.tick)
            self.assertEqual((tree.number_of("a"), tree.state_of("a")), (number, "running"))
        self.assertEqual((tree.starts_of("a"), tree.starts_of("b")), (4, 1))

    def test_a_worker_that_ends_in_its_start_has_run(self):
        tree = ran(root(worker("a", row("start", ("end", "normal")), restart="transient"), WorkerPlan("b")))
        self.check_log(tree, """
            0 input start ()
            0 started 1 root 0
            0 started 2 a 1
            0 running 2
            0 ended 2 normal
            0 started 3 b 1
            0 running 3
            0 running 1
            """)

    def test_a_worker_that_fails_in_its_start_is_mended_behind_the_opening(self):
        # It ends as soon as it runs: the start is done by its report, the mend waits for the root to be ready.
        tree = ran(root(worker("a", row("start", ("end", "failed"))), WorkerPlan("b", opening=1)), 5)
        self.check_log(tree, """
            0 input start ()
            0 started 1 root 0
            0 started 2 a 1
            0 running 2
            0 ended 2 failed
            0 started 3 b 1
            1 running 3
            1 running 1
            1 restart 1 a
            1 started 4 a 1
            1 running 4
            1 ended 4 failed
            1 restart 1 a
            1 closing 1
            1 closing 3
            1 ended 3 shutdown
            1 ended 1 gave_up
            """)

    def test_a_child_that_fails_while_its_supervisor_opens_is_mended_when_this_runs(self):
        tree = ran(root(WorkerPlan("a"), WorkerPlan("b", opening=3), most=2), 1)
        tree.fail("a")
        since = tree.entries_count
        tree.run(2)
        self.assertEqual((told(tree, since), tree.state_of("a")), ([], "ended"))
        tree.run(3)
        self.check_log(tree, """
            3 running 3
            3 running 1
            3 restart 1 a
            3 started 4 a 1
            3 running 4
            """, since)

    def test_the_beginning_of_the_next_order_is_put_behind_the_report(self):
        # The root hears that pair runs ahead of the mend of a, so it starts z ahead of the start of a.
        pair = SupervisorPlan("pair", WorkerPlan("a"), WorkerPlan("b", opening=2))
        tree = ran(root(pair, WorkerPlan("z")), 1)
        tree.fail("a")
        since = tree.entries_count
        tree.run(2)
        self.check_log(tree, """
            2 running 4
            2 running 2
            2 restart 2 a
            2 started 5 z 1
            2 started 6 a 2
            2 running 5
            2 running 6
            2 running 1
            """, since)


class RefusedStarts(TreeCase):
    def test_the_starts_behind_the_first_one_are_refused(self):
        for refused in (0, 1, 2, 3):
            tree = ran(root(WorkerPlan("a", refused=refused), most=9))
            since = tree.entries_count
            tree.fail("a")
            tree.run(0)
            ends = [line for line in told(tree, since) if "refused" in line]
            self.assertEqual(len(ends), refused)
            self.assertEqual((tree.starts_of("a"), tree.state_of("a")), (2 + refused, "running"))
            self.assertEqual(tree.noted("root"), (0,) * (1 + refused))
            tree.fail("a")
            tree.run(0)
            self.assertEqual(tree.starts_of("a"), 3 + refused)

    def test_a_refused_start_takes_its_opening(self):
        tree = ran(root(WorkerPlan("a", opening=2, refused=1), most=2, span=9), 4)
        since = tree.entries_count
        tree.fail("a")
        tree.run(9)
        self.check_log(tree, """
            4 input fail ('a', 'failed')
            4 ended 2 failed
            4 restart 1 a
            4 started 3 a 1
            6 ended 3 refused
            6 restart 1 a
            6 started 4 a 1
            8 running 4
            """, since)

    def test_a_refused_start_while_the_supervisor_opens(self):
        # The second process of inner starts w for the second time: it closes, and the root starts it once more.
        inner = SupervisorPlan("inner", WorkerPlan("a", closing=1), WorkerPlan("w", refused=1), WorkerPlan("b"), most=0)
        tree = ran(root(inner, most=3), 5)
        since = tree.entries_count
        tree.fail("w")
        tree.run(20)
        self.check_log(tree, """
            5 input fail ('w', 'failed')
            5 ended 4 failed
            5 restart 2 w
            5 closing 2
            5 closing 5
            5 ended 5 shutdown
            5 closing 3
            6 ended 3 shutdown
            6 ended 2 gave_up
            6 restart 1 inner
            6 started 6 inner 1
            6 started 7 a 6
            6 running 7
            6 started 8 w 6
            6 ended 8 refused
            6 closing 6
            6 closing 7
            7 ended 7 shutdown
            7 ended 6 refused
            7 restart 1 inner
            7 started 9 inner 1
            7 started 10 a 9
            7 running 10
            7 started 11 w 9
            7 running 11
            7 started 12 b 9
            7 running 12
            7 running 9
            """, since)

    def test_a_start_that_fails_by_a_signal_lets_the_opening_root_close(self):
        linker = worker("a", row("go", ("link", "b")), closing=3)
        tree = ran(root(linker, WorkerPlan("c", closing=2), WorkerPlan("b", opening=9), WorkerPlan("d")), 1)
        tree.send("a", "go")
        tree.run(3)
        since = tree.entries_count
        tree.fail("a", "crash")
        tree.run(9)
        self.check_log(tree, """
            3 input fail ('a', 'crash')
            3 ended 2 crash
            3 signal 4 crash
            3 ended 4 crash
            3 closing 1
            3 closing 3
            5 ended 3 shutdown
            5 ended 1 refused
            """, since)
        self.assertTrue(tree.is_over)

    def test_the_number_of_starts_is_kept_when_the_supervisor_starts_again(self):
        inner = SupervisorPlan("inner", WorkerPlan("v"), WorkerPlan("w"), most=0)
        tree = ran(root(inner, most=5))
        for starts in (2, 3, 4):
            tree.fail("v")
            tree.run(0)
            self.assertEqual([tree.starts_of(place) for place in ("root", "inner", "v", "w")], [1] + [starts] * 3)


class Places(TreeCase):
    def test_a_temporary_place_leaves_the_list_by_each_end(self):
        for reason in ("failed", "normal"):
            tree = ran(root(WorkerPlan("a"), WorkerPlan("b", restart="temporary")))
            since = tree.entries_count
            tree.fail("b", reason)
            tree.run(0)
            self.check_log(tree, f"""
                0 input fail ('b', '{reason}')
                0 ended 3 {reason}
                0 removed 1 b
                """, since)
            self.assertEqual((tree.listed("root"), "b" in tree), (("a",), True))
            self.assertEqual((tree.state_of("b"), tree.reason_of("b"), tree.starts_of("b")), ("ended", reason, 1))

    def test_removed_places_of_the_plan_are_there_again_in_a_new_process(self):
        inner = SupervisorPlan("inner", WorkerPlan("v"), WorkerPlan("t", restart="temporary"), WorkerPlan("w"), most=0)
        tree = ran(root(inner, most=5))
        tree.fail("t")
        tree.take_out("w")
        tree.run(0)
        self.assertEqual(tree.listed("inner"), ("v",))
        tree.fail("v")
        tree.run(0)
        self.assertEqual(tree.listed("inner"), ("v", "t", "w"))
        self.assertEqual([tree.starts_of(place) for place in ("v", "t", "w")], [2, 2, 2])

    def test_the_order_of_the_tree(self):
        inner = SupervisorPlan("inner", WorkerPlan("b"), SupervisorPlan("deep", WorkerPlan("c")), WorkerPlan("d"))
        tree = ran(root(WorkerPlan("a"), inner, WorkerPlan("e")))
        self.assertEqual(tree.running, ("root", "a", "inner", "b", "deep", "c", "d", "e"))
        tree.add("inner", WorkerPlan("x"))
        tree.add("root", WorkerPlan("y"))
        tree.run(0)
        self.assertEqual(tree.running, ("root", "a", "inner", "b", "deep", "c", "d", "x", "e", "y"))
        self.assertEqual(tree.listed("inner"), ("b", "deep", "d", "x"))
        tree.take_out("b")
        tree.run(0)
        self.assertEqual(tree.running, ("root", "a", "inner", "deep", "c", "d", "x", "e", "y"))


if __name__ == "__main__":
    unittest.main()
