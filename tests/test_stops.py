"""watchtree.trees: stops and deadlines (4.2, 6.4, 7, 9.1)."""

import unittest

from tests.telling import TreeCase, ran, root, row, told, worker
from watchtree.errors import Over
from watchtree.plans import SupervisorPlan, WorkerPlan
from watchtree.trees import Tree


def stopped(plan, tick=4):
    """A tree with this plan that is asked to stop at this tick, and the number of the last entry before this."""
    tree = ran(plan, tick)
    since = tree.entries_count
    tree.stop()
    return tree, since


class Stops(TreeCase):
    def test_a_shutdown_runs_in_reverse_order_one_after_the_other(self):
        tree, since = stopped(root(WorkerPlan("a", closing=2), WorkerPlan("b", closing=1), WorkerPlan("c")))
        tree.run(9)
        self.check_log(tree, """
            4 input stop ()
            4 closing 1
            4 closing 4
            4 ended 4 shutdown
            4 closing 3
            5 ended 3 shutdown
            5 closing 2
            7 ended 2 shutdown
            7 ended 1 shutdown
            """, since)

    def test_supervisors_end_behind_all_below_them(self):
        pair = SupervisorPlan("pair", WorkerPlan("b"), WorkerPlan("c", closing=1))
        tree, since = stopped(root(WorkerPlan("a"), pair))
        tree.run(9)
        self.check_log(tree, """
            4 input stop ()
            4 closing 1
            4 closing 3
            4 closing 5
            5 ended 5 shutdown
            5 closing 4
            5 ended 4 shutdown
            5 ended 3 shutdown
            5 closing 2
            5 ended 2 shutdown
            5 ended 1 shutdown
            """, since)

    def test_a_stop_amid_an_opening(self):
        plan = root(WorkerPlan("a", closing=1), WorkerPlan("b", opening=5, closing=7), WorkerPlan("c"))
        tree, since = stopped(plan, 2)
        tree.run(9)
        self.check_log(tree, """
            2 input stop ()
            2 closing 1
            2 closing 3
            2 ended 3 shutdown
            2 closing 2
            3 ended 2 shutdown
            3 ended 1 shutdown
            """, since)
        self.assertEqual([tree.state_of(place) for place in ("root", "a", "b", "c")], ["ended"] * 3 + [None])

    def test_a_stop_amid_the_opening_of_a_supervisor_below(self):
        pair = SupervisorPlan("pair", WorkerPlan("b", closing=2), WorkerPlan("c", opening=5), WorkerPlan("d"))
        tree, since = stopped(root(WorkerPlan("a"), pair, WorkerPlan("z")), 1)
        tree.run(9)
        self.check_log(tree, """
            1 input stop ()
            1 closing 1
            1 closing 3
            1 closing 5
            1 ended 5 shutdown
            1 closing 4
            3 ended 4 shutdown
            3 ended 3 shutdown
            3 closing 2
            3 ended 2 shutdown
            3 ended 1 shutdown
            """, since)

    def test_a_stop_ahead_of_any_start(self):
        tree = Tree(root(WorkerPlan("a")))
        tree.stop()
        tree.run(0)
        # The input ran the tick to its end first.
        self.check_log(tree, """
            0 input start ()
            0 started 1 root 0
            0 started 2 a 1
            0 running 2
            0 running 1
            0 input stop ()
            0 closing 1
            0 closing 2
            0 ended 2 shutdown
            0 ended 1 shutdown
            """)

    def test_a_stop_amid_a_mend(self):
        plan = root(WorkerPlan("a", opening=3), WorkerPlan("b", closing=2), strategy="all", most=3)
        tree = ran(plan, 3)
        tree.fail("a")
        tree.run(4)
        since = tree.entries_count
        # b is closing by the mend, and a is not started any more.
        tree.stop()
        tree.run(9)
        self.check_log(tree, """
            4 input stop ()
            4 closing 1
            5 ended 3 shutdown
            5 ended 1 shutdown
            """, since)

    def test_a_stop_amid_the_start_of_a_mend(self):
        tree = ran(root(WorkerPlan("a", opening=3, closing=4), WorkerPlan("b"), most=3), 3)
        tree.fail("a")
        tree.run(4)
        since = tree.entries_count
        tree.stop()
        tree.run(9)
        self.check_log(tree, """
            4 input stop ()
            4 closing 1
            4 closing 3
            4 ended 3 shutdown
            4 closing 4
            4 ended 4 shutdown
            4 ended 1 shutdown
            """, since)
        self.assertEqual(tree.next_tick, None)

    def test_the_report_of_a_process_that_is_stopped_by_now_does_nothing(self):
        # inner begins to stop x when this runs already, but has not been heard of: inner still waits for its end.
        ends = worker("x", row("go", ("end", "failed")), closing=2)
        removes = worker("e", row("go", ("remove", "c"), ("remove", "d"), ("remove", "inner")))
        done = [WorkerPlan(name, restart="transient") for name in ("c", "d")]
        tree = ran(root(removes, SupervisorPlan("inner", ends), *done))
        tree.fail("c", "normal")
        tree.fail("d", "normal")
        tree.send("x", "go")
        tree.send("e", "go")
        since = tree.entries_count
        tree.run(9)
        self.check_log(tree, """
            1 arrived 1 4
            1 arrived 2 2
            1 taken 1 4
            1 ended 4 failed
            1 taken 2 2
            1 removed 1 c
            1 sent 3 told None 2 told 1
            1 restart 3 x
            1 removed 1 d
            1 sent 4 told None 2 told 1
            1 started 7 x 3
            1 closing 3
            1 running 7
            1 closing 7
            2 idle 2
            2 arrived 3 2
            2 arrived 4 2
            3 ended 7 shutdown
            3 ended 3 shutdown
            3 removed 1 inner
            3 sent 5 told None 2 told 1
            4 arrived 5 2
            """, since)

    def test_the_notice_of_a_process_that_was_awaited_by_a_dropped_order(self):
        # s waits for the start of a when it is asked to stop; a ends by a signal of this very tick, and its notice
        # comes ahead of the beginning of the order to stop b.
        ends = worker("e", row("bind", ("link", "a")), row("go", ("end", "failed")))
        removes = worker("f", row("go", ("remove", "s")))
        inner = SupervisorPlan("s", WorkerPlan("a", opening=5), WorkerPlan("b", closing=2))
        tree = ran(root(inner, ends, removes), 5)
        tree.fail("a")
        tree.send("e", "bind")
        tree.run(8)
        tree.send("e", "go")
        tree.send("f", "go")
        since = tree.entries_count
        tree.run(9)
        self.check_log(tree, """
            9 arrived 2 5
            9 arrived 3 6
            9 taken 2 5
            9 ended 5 failed
            9 taken 3 6
            9 signal 7 failed
            9 ended 7 failed
            9 closing 2
            9 closing 4
            """, since)
        tree.run(11)
        self.assertEqual([tree.reason_of(place) for place in ("a", "b", "s")], ["failed", "shutdown", "shutdown"])

    def test_a_second_stop_does_nothing_but_make_its_entry(self):
        tree, since = stopped(root(WorkerPlan("a", closing=3)))
        tree.run(5)
        tree.stop()
        tree.run(9)
        self.check_log(tree, """
            4 input stop ()
            4 closing 1
            4 closing 2
            5 input stop ()
            7 ended 2 shutdown
            7 ended 1 shutdown
            """, since)

    def test_stopped_children_are_not_mended(self):
        for restart in ("permanent", "transient"):
            inner = SupervisorPlan("inner", WorkerPlan("a", restart=restart, closing=4, deadline=2), restart=restart)
            tree, _ = stopped(root(inner, WorkerPlan("z", restart=restart)))
            tree.run(9)
            self.assertFalse([line for line in told(tree) if "restart" in line])
            self.assertEqual([tree.reason_of(place) for place in ("root", "inner", "a", "z")],
                             ["shutdown", "shutdown", "killed", "shutdown"])

    def test_temporary_children_leave_the_list_in_a_shutdown(self):
        tree, since = stopped(root(WorkerPlan("a", restart="temporary"), WorkerPlan("b")))
        tree.run(4)
        self.check_log(tree, """
            4 input stop ()
            4 closing 1
            4 closing 3
            4 ended 3 shutdown
            4 closing 2
            4 ended 2 shutdown
            4 removed 1 a
            4 ended 1 shutdown
            """, since)

    def test_the_first_reason_stays(self):
        # inner has given up, and is asked to stop while it waits for v.
        inner = SupervisorPlan("inner", WorkerPlan("v", closing=5), WorkerPlan("w"), most=0)
        tree = ran(root(inner), 1)
        tree.fail("w")
        tree.run(3)
        since = tree.entries_count
        tree.stop()
        tree.run(9)
        self.check_log(tree, """
            3 input stop ()
            3 closing 1
            6 ended 3 shutdown
            6 ended 2 gave_up
            6 ended 1 shutdown
            """, since)


class Deadlines(TreeCase):
    def test_a_worker_that_needs_longer_is_killed(self):
        for closing, deadline, tick, reason in ((5, 2, 6, "killed"), (3, 2, 6, "killed"), (2, 2, 6, "shutdown"),
                                                (1, 2, 5, "shutdown"), (0, 0, 4, "shutdown"), (1, 0, 4, "killed"),
                                                (9, None, 13, "shutdown")):
            tree, since = stopped(root(WorkerPlan("a", closing=closing, deadline=deadline)))
            tree.run(20)
            self.check_log(tree, f"""
                4 input stop ()
                4 closing 1
                4 closing 2
                {tick} ended 2 {reason}
                {tick} ended 1 shutdown
                """, since)

    def test_a_supervisor_is_killed_with_everything_below_it(self):
        deep = SupervisorPlan("deep", WorkerPlan("c"), WorkerPlan("d", opening=1))
        inner = SupervisorPlan("inner", WorkerPlan("a"), deep, WorkerPlan("b", closing=9), deadline=2)
        tree, since = stopped(root(inner, WorkerPlan("z", closing=1)))
        tree.run(9)
        self.check_log(tree, """
            4 input stop ()
            4 closing 1
            4 closing 8
            5 ended 8 shutdown
            5 closing 2
            5 closing 7
            7 ended 7 killed
            7 ended 6 killed
            7 ended 5 killed
            7 ended 4 killed
            7 ended 3 killed
            7 ended 2 killed
            7 ended 1 shutdown
            """, since)

    def test_processes_that_have_ended_are_not_killed_again(self):
        inner = SupervisorPlan("inner", WorkerPlan("a"), WorkerPlan("b", closing=9), WorkerPlan("c"), deadline=2)
        tree, since = stopped(root(inner))
        tree.run(9)
        self.check_log(tree, """
            4 input stop ()
            4 closing 1
            4 closing 2
            4 closing 5
            4 ended 5 shutdown
            4 closing 4
            6 ended 4 killed
            6 ended 3 killed
            6 ended 2 killed
            6 ended 1 shutdown
            """, since)

    def test_a_supervisor_whose_last_child_is_killed_in_the_tick_of_its_deadline_is_in_time(self):
        inner = SupervisorPlan("inner", WorkerPlan("a", closing=9, deadline=2), deadline=2)
        tree, since = stopped(root(inner, deadline=2))
        tree.run(9)
        self.check_log(tree, """
            4 input stop ()
            4 closing 1
            4 closing 2
            4 closing 3
            6 ended 3 killed
            6 ended 2 shutdown
            6 ended 1 shutdown
            """, since)

    def test_the_deadlines_of_a_tick_go_from_the_greatest_level_up(self):
        # When b is killed, inner goes on with a, which is not in time; then inner itself is killed, then the root.
        inner = SupervisorPlan("inner", WorkerPlan("a", closing=9), WorkerPlan("b", closing=9, deadline=2), deadline=2)
        tree, since = stopped(root(WorkerPlan("z", closing=1), inner, deadline=2))
        tree.run(9)
        self.check_log(tree, """
            4 input stop ()
            4 closing 1
            4 closing 3
            4 closing 5
            6 ended 5 killed
            6 closing 4
            6 ended 4 killed
            6 ended 3 killed
            6 closing 2
            6 ended 2 killed
            6 ended 1 killed
            """, since)

    def test_a_deadline_of_no_ticks_is_behind_all_other_steps_of_its_tick(self):
        # a is asked to stop and given its deadline in this very tick, in which the deadline of inner is due, too.
        inner = SupervisorPlan("inner", WorkerPlan("a", closing=1, deadline=0), WorkerPlan("b", closing=2, deadline=2),
                               deadline=2)
        tree, since = stopped(root(inner))
        tree.run(9)
        self.check_log(tree, """
            4 input stop ()
            4 closing 1
            4 closing 2
            4 closing 4
            6 ended 4 shutdown
            6 closing 3
            6 ended 3 killed
            6 ended 2 shutdown
            6 ended 1 shutdown
            """, since)

    def test_of_one_level_the_last_one_in_the_order_of_the_tree_is_first(self):
        # Both inner ones stop their last worker by a mend at the same tick, one way round and the other.
        for places in (("a", "c"), ("c", "a")):
            one = SupervisorPlan("one", WorkerPlan("a"), WorkerPlan("b", closing=9, deadline=3), strategy="all")
            two = SupervisorPlan("two", WorkerPlan("c"), WorkerPlan("d", closing=9, deadline=3), strategy="all")
            tree = ran(root(one, two), 1)
            for place in places:
                tree.fail(place)
            tree.run(3)
            since = tree.entries_count
            tree.run(4)
            self.assertEqual(told(tree, since)[0], "4 ended 7 killed")
            self.assertEqual([line for line in told(tree, since) if "killed" in line],
                             ["4 ended 7 killed", "4 ended 4 killed"])

    def test_the_greatest_level_is_ahead_of_the_last_one_in_the_order_of_the_tree(self):
        # The root stops z, and one stops b below it: z stands behind b in the order of the tree, on a smaller level.
        one = SupervisorPlan("one", WorkerPlan("a"), WorkerPlan("b", closing=9, deadline=3), strategy="all")
        plan = root(one, WorkerPlan("y"), WorkerPlan("z", closing=9, deadline=3), strategy="rest")
        for places in (("a", "y"), ("y", "a")):
            tree = ran(plan, 1)
            for place in places:
                tree.fail(place)
            tree.run(4)
            self.assertEqual([line for line in told(tree) if "killed" in line],
                             ["4 ended 4 killed", "4 ended 6 killed"])

    def test_ordinary_steps_are_executed_between_two_deadlines(self):
        one = SupervisorPlan("one", WorkerPlan("a"), WorkerPlan("b", closing=9, deadline=3), strategy="all")
        two = SupervisorPlan("two", WorkerPlan("c"), WorkerPlan("d", closing=9, deadline=3), strategy="all")
        tree = ran(root(one, two), 1)
        tree.fail("a")
        tree.fail("c")
        tree.run(3)
        since = tree.entries_count
        tree.run(4)
        self.check_log(tree, """
            4 ended 7 killed
            4 started 8 c 5
            4 running 8
            4 started 9 d 5
            4 running 9
            4 ended 4 killed
            4 started 10 a 2
            4 running 10
            4 started 11 b 2
            4 running 11
            """, since)

    def test_the_deadlines_of_a_process_go_when_it_ends(self):
        plan = root(WorkerPlan("a"), WorkerPlan("b", closing=1, deadline=50), strategy="all", most=3)
        tree = ran(plan, 2)
        tree.fail("a")
        tree.run(2)
        self.assertEqual((tree.next_tick, tree.is_quiet), (3, False))
        tree.run(3)
        self.assertEqual((tree.next_tick, tree.is_quiet, tree.number_of("b")), (None, True, 5))
        tree.run(60)
        self.assertEqual((tree.number_of("b"), tree.state_of("b")), (5, "running"))

    def test_a_worker_that_was_opening_has_no_deadline(self):
        tree, _ = stopped(root(WorkerPlan("a", opening=9, deadline=3)), 1)
        tree.run(1)
        # The step at the end of its opening stays, and does nothing.
        self.assertEqual((tree.is_over, tree.next_tick, tree.reason_of("a")), (True, 9, "shutdown"))
        self.assertEqual((tree.run(20), tree.next_tick), (0, None))

    def test_a_process_that_is_asked_again_gets_one_more_deadline(self):
        tree = ran(root(WorkerPlan("z"), WorkerPlan("a", closing=9, deadline=5), most=3), 1)
        since = tree.entries_count
        tree.take_out("a")
        tree.run(3)
        tree.stop()
        tree.run(20)
        self.check_log(tree, """
            1 input take_out ('a',)
            1 closing 3
            3 input stop ()
            3 closing 1
            3 refused 1 a
            6 ended 3 killed
            6 closing 2
            6 ended 2 shutdown
            6 ended 1 shutdown
            """, since)

    def test_a_closing_supervisor_gets_its_deadline_when_it_is_asked(self):
        inner = SupervisorPlan("inner", WorkerPlan("v", closing=50), WorkerPlan("w"), most=0, deadline=3)
        tree = ran(root(inner), 1)
        tree.fail("w")
        tree.run(9)
        self.assertEqual((tree.state_of("inner"), tree.next_tick), ("closing", 51))
        since = tree.entries_count
        tree.stop()
        self.assertEqual(tree.next_tick, 9)
        tree.run(60)
        self.check_log(tree, """
            9 input stop ()
            9 closing 1
            12 ended 3 killed
            12 ended 2 killed
            12 ended 1 shutdown
            """, since)

    def test_the_root_has_a_deadline_by_the_stop_of_the_caller(self):
        tree, since = stopped(root(WorkerPlan("a", closing=9), WorkerPlan("b", closing=9), deadline=2))
        tree.run(5)
        tree.stop()
        tree.run(60)
        self.check_log(tree, """
            4 input stop ()
            4 closing 1
            4 closing 3
            5 input stop ()
            6 ended 3 killed
            6 ended 2 killed
            6 ended 1 killed
            """, since)
        self.assertEqual((tree.is_over, tree.reason_of("root"), len(tree)), (True, "killed", 0))

    def test_a_killed_process_is_not_mended(self):
        plan = root(WorkerPlan("a"), WorkerPlan("b", closing=5, deadline=1), strategy="all", most=2)
        tree = ran(plan, 1)
        tree.fail("a")
        tree.run(9)
        self.assertEqual((tree.noted("root"), tree.starts_of("b")), ((1,), 2))


class OverTrees(TreeCase):
    def test_steps_that_are_left_are_executed_as_before(self):
        tree = ran(root(worker("a", row("start", ("later", 9, "go", 1), work=6)), deadline=1), 1)
        tree.send("a", "go")
        since = tree.entries_count
        tree.stop()
        tree.run(1)
        self.assertEqual((tree.is_over, tree.is_quiet, tree.next_tick), (True, False, 2))
        self.assertEqual((tree.run_until_quiet(50), tree.tick), (True, 1))
        tree.run(2)
        # What is left are the end of its work and its timer, which both do nothing.
        self.assertEqual(tree.next_tick, 6)
        tree.run(6)
        self.assertEqual(tree.next_tick, 8)
        tree.run(50)
        self.assertEqual((tree.is_over, tree.is_quiet, tree.next_tick), (True, False, None))
        self.check_log(tree, """
            1 input stop ()
            1 closing 1
            1 closing 2
            1 ended 2 shutdown
            1 ended 1 shutdown
            2 dropped 1
            """, since)

    def test_there_are_no_inputs_any_more(self):
        tree, _ = stopped(root(WorkerPlan("a")))
        tree.run(4)
        count = tree.entries_count
        for call, arguments in ((tree.stop, ()), (tree.fail, ("a",)), (tree.fail, (None, None)), (tree.add, ("no", 1)),
                                (tree.add, ("root", WorkerPlan("x"))), (tree.take_out, ("a",)), (tree.take_out, ([],)),
                                (tree.send, ("a", "go")), (tree.ask, (1, 2, 3))):
            self.check_raises(Over(), call, *arguments)
        self.assertEqual((tree.entries_count, tree.tick), (count, 4))

    def test_an_input_that_finds_the_tree_over_runs_the_tick_first(self):
        tree, _ = stopped(root(WorkerPlan("a")))
        self.assertFalse(tree.is_over)
        self.check_raises(Over(), tree.fail, "a")
        self.assertTrue(tree.is_over)

    def test_a_tree_is_over_for_whatever_reason(self):
        gave_up = ran(root(WorkerPlan("a"), most=0))
        gave_up.fail("a")
        gave_up.run(0)
        self.assertEqual((gave_up.is_over, gave_up.reason_of("root")), (True, "gave_up"))
        self.assertEqual((gave_up.is_quiet, gave_up.next_tick, gave_up.running, len(gave_up)), (False, None, (), 0))


if __name__ == "__main__":
    unittest.main()
