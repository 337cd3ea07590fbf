"""watchtree.trees: mends, notes, budgets, and supervisors that give up (3.4, 6.6, 8)."""

import unittest

from tests.telling import TreeCase, ran, root, row, told, worker
from watchtree.plans import SupervisorPlan, WorkerPlan


def failed(plan, place, tick=4, until=40, reason="failed"):
    """A tree with this plan in which a worker fails at a tick; the number of the last entry before, behind it."""
    tree = ran(plan, tick)
    since = tree.entries_count + 2
    tree.fail(place, reason)
    tree.run(until)
    return tree, since


def three(**settings):
    """A root with three workers that need time to open and to close."""
    return root(WorkerPlan("a", opening=1, closing=2), WorkerPlan("b", opening=1, closing=1),
                WorkerPlan("c", opening=1, closing=3), **settings)


class WhatIsMended(TreeCase):
    def test_the_restart_and_the_reason(self):
        for restart, reason, is_mended in (
                ("permanent", "failed", True), ("permanent", "normal", True), ("permanent", "shutdowns", True),
                ("transient", "failed", True), ("transient", "normal", False), ("transient", "normally", True),
                ("temporary", "failed", False), ("temporary", "normal", False)):
            with self.subTest(restart, reason=reason):
                tree, _ = failed(root(WorkerPlan("a", restart=restart), WorkerPlan("b")), "a", reason=reason)
                self.assertEqual(tree.noted("root"), (4,) if is_mended else ())
                self.assertEqual(tree.starts_of("a"), 2 if is_mended else 1)
                self.assertEqual(tree.listed("root"), ("b",) if restart == "temporary" else ("a", "b"))
                self.assertEqual(tree.is_quiet, True)

    def test_a_supervisor_that_gives_up_has_ended_abnormally(self):
        for restart, is_mended in (("permanent", True), ("transient", True), ("temporary", False)):
            inner = SupervisorPlan("inner", WorkerPlan("a"), most=0, restart=restart)
            tree, _ = failed(root(inner, WorkerPlan("b")), "a")
            self.assertEqual((tree.noted("root"), tree.starts_of("inner")), ((4,), 2) if is_mended else ((), 1))
            self.assertEqual(tree.reason_of("inner"), None if is_mended else "gave_up")

    def test_an_end_by_a_signal_or_a_deed_is_mended_too(self):
        plan = root(worker("a", row("go", ("link", "no_one"), ("link", "root"))),
                    worker("b", row("go", ("end", "normal"))), most=3)
        tree = ran(plan)
        tree.send("a", "go")
        tree.send("b", "go")
        tree.run(1)
        self.assertEqual((tree.noted("root"), tree.starts_of("a"), tree.starts_of("b")), ((1, 1), 2, 2))


class Strategies(TreeCase):
    def test_one(self):
        tree, since = failed(three(strategy="one"), "b")
        self.check_log(tree, """
            4 restart 1 b
            4 started 5 b 1
            5 running 5
            """, since)

    def test_rest(self):
        tree, since = failed(three(strategy="rest"), "b")
        self.check_log(tree, """
            4 restart 1 b
            4 closing 4
            7 ended 4 shutdown
            7 started 5 b 1
            8 running 5
            8 started 6 c 1
            9 running 6
            """, since)

    def test_rest_of_the_first_child(self):
        tree, since = failed(three(strategy="rest"), "a")
        self.check_log(tree, """
            4 restart 1 a
            4 closing 4
            7 ended 4 shutdown
            7 closing 3
            8 ended 3 shutdown
            8 started 5 a 1
            9 running 5
            9 started 6 b 1
            10 running 6
            10 started 7 c 1
            11 running 7
            """, since)

    def test_rest_of_the_last_child(self):
        tree, since = failed(three(strategy="rest"), "c")
        self.check_log(tree, """
            4 restart 1 c
            4 started 5 c 1
            5 running 5
            """, since)

    def test_all(self):
        tree, since = failed(three(strategy="all"), "b")
        self.check_log(tree, """
            4 restart 1 b
            4 closing 4
            7 ended 4 shutdown
            7 closing 2
            9 ended 2 shutdown
            9 started 5 a 1
            10 running 5
            10 started 6 b 1
            11 running 6
            11 started 7 c 1
            12 running 7
            """, since)

    def test_supervisors_are_stopped_and_started_whole(self):
        inner = SupervisorPlan("inner", WorkerPlan("x", closing=1), WorkerPlan("y"))
        tree, since = failed(root(WorkerPlan("a"), inner, strategy="rest"), "a")
        self.check_log(tree, """
            4 restart 1 a
            4 closing 3
            4 closing 5
            4 ended 5 shutdown
            4 closing 4
            5 ended 4 shutdown
            5 ended 3 shutdown
            5 started 6 a 1
            5 running 6
            5 started 7 inner 1
            5 started 8 x 7
            5 running 8
            5 started 9 y 7
            5 running 9
            5 running 7
            """, since)

    def test_places_are_started_also_if_their_last_end_was_normal(self):
        for strategy, starts in (("one", 1), ("rest", 2), ("all", 2)):
            plan = root(WorkerPlan("a"), WorkerPlan("t", restart="transient"), strategy=strategy, most=3)
            tree = ran(plan, 1)
            tree.fail("t", "normal")
            tree.run(1)
            self.assertEqual((tree.state_of("t"), tree.listed("root"), tree.is_quiet), ("ended", ("a", "t"), True))
            tree.fail("a")
            tree.run(2)
            self.assertEqual((tree.starts_of("t"), tree.noted("root")), (starts, (1,)))

    def test_a_temporary_child_that_is_stopped_leaves_the_list(self):
        for strategy, listed in (("one", ("a", "t", "b")), ("rest", ("a", "b")), ("all", ("a", "b"))):
            plan = root(WorkerPlan("a"), WorkerPlan("t", restart="temporary", closing=1), WorkerPlan("b"),
                        strategy=strategy)
            tree, _ = failed(plan, "a")
            self.assertEqual((tree.listed("root"), tree.starts_of("t"), tree.starts_of("a")), (listed, 1, 2))

    def test_added_children_are_stopped_and_started_as_the_others(self):
        for strategy, starts in (("one", [1, 2, 1]), ("rest", [1, 2, 2]), ("all", [2, 2, 2])):
            tree = ran(root(WorkerPlan("a"), WorkerPlan("b"), strategy=strategy), 1)
            tree.add("root", WorkerPlan("x"))
            tree.run(1)
            tree.fail("b")
            tree.run(1)
            self.assertEqual([tree.starts_of(place) for place in ("a", "b", "x")], starts)


class SeveralMends(TreeCase):
    def test_mends_are_done_one_after_the_other(self):
        tree = ran(root(WorkerPlan("a", opening=2), WorkerPlan("b", opening=1), most=3), 5)
        since = tree.entries_count
        tree.fail("a")
        tree.fail("b")
        tree.run(9)
        self.check_log(tree, """
            5 input fail ('a', 'failed')
            5 ended 2 failed
            5 restart 1 a
            5 started 4 a 1
            5 input fail ('b', 'failed')
            5 ended 3 failed
            7 running 4
            7 restart 1 b
            7 started 5 b 1
            8 running 5
            """, since)
        self.assertEqual(tree.noted("root"), (5, 7))

    def test_what_another_mend_has_started_is_not_mended_again(self):
        # Both end in one tick, by a link: two orders to mend are put, a's first.
        linked = worker("b", row("start", ("link", "a")))
        for strategy, notes in (("one", (3, 3)), ("rest", (3,)), ("all", (3,))):
            tree = ran(root(WorkerPlan("a"), linked, strategy=strategy, most=5), 3)
            tree.fail("a")
            tree.run(3)
            self.assertEqual((tree.noted("root"), tree.starts_of("a"), tree.starts_of("b")), (notes, 2, 2))

    def test_a_mend_of_a_place_that_has_left_the_list_does_nothing(self):
        # The order to remove a begins ahead of the notice that a has failed: a has left the list by then.
        plan = root(worker("a", row("go", ("end", "failed"))), worker("b", row("go", ("remove", "a"))))
        tree = ran(plan)
        tree.send("b", "go")
        tree.send("a", "go")
        since = tree.entries_count
        tree.run(1)
        self.check_log(tree, """
            1 arrived 1 3
            1 arrived 2 2
            1 taken 1 3
            1 taken 2 2
            1 ended 2 failed
            1 removed 1 a
            1 sent 3 told None 3 told 1
            """, since)
        self.assertEqual((tree.noted("root"), tree.listed("root")), ((), ("b",)))

    def test_the_notice_of_a_temporary_place_that_has_left_the_list(self):
        # The order to remove t begins ahead of the notice that it has ended, as above; t is in the plan, or added.
        for is_added in (False, True):
            ends = worker("t", row("go", ("end", "failed")), restart="temporary")
            tree = ran(root(worker("b", row("go", ("remove", "t"))), *(() if is_added else (ends,))))
            if is_added:
                tree.add("root", ends)
            tree.send("b", "go")
            tree.send("t", "go")
            since = tree.entries_count
            tree.run(1)
            self.check_log(tree, """
                1 arrived 1 2
                1 arrived 2 3
                1 taken 1 2
                1 taken 2 3
                1 ended 3 failed
                1 removed 1 t
                1 sent 3 told None 2 told 1
                """, since)
            self.assertEqual("t" in tree, not is_added)

    def test_two_supervisors_mend_step_by_step_side_by_side(self):
        # Each order takes the same steps for both, so their entries stand by turns.
        one = SupervisorPlan("one", WorkerPlan("a"), WorkerPlan("b"), strategy="all")
        two = SupervisorPlan("two", worker("c", row("go", ("link", "a"))), WorkerPlan("d"), strategy="rest")
        tree = ran(root(one, two), 1)
        tree.send("c", "go")
        tree.run(3)
        since = tree.entries_count
        tree.fail("a")
        tree.run(3)
        self.check_log(tree, """
            3 input fail ('a', 'failed')
            3 ended 3 failed
            3 signal 6 failed
            3 ended 6 failed
            3 restart 2 a
            3 restart 5 c
            3 closing 4
            3 closing 7
            3 ended 4 shutdown
            3 ended 7 shutdown
            3 started 8 a 2
            3 started 9 c 5
            3 running 8
            3 running 9
            3 started 10 b 2
            3 started 11 d 5
            3 running 10
            3 running 11
            """, since)

    def test_a_child_that_ends_while_a_mend_is_under_way_is_mended_behind_it(self):
        plan = root(WorkerPlan("a"), WorkerPlan("b"), WorkerPlan("c", closing=3), strategy="all", most=5)
        tree = ran(plan, 1)
        tree.fail("b")
        tree.run(2)
        tree.fail("a")
        since = tree.entries_count
        tree.run(9)
        self.check_log(tree, """
            4 ended 4 shutdown
            4 started 5 a 1
            4 running 5
            4 started 6 b 1
            4 running 6
            4 started 7 c 1
            4 running 7
            """, since)
        # The mend because of the earlier process of a came too late to be noted.
        self.assertEqual(tree.noted("root"), (1,))


class Notes(TreeCase):
    def gives_up(self, most, span, ticks):
        """Whether a root gives up when its worker fails at these ticks."""
        tree = ran(root(WorkerPlan("a"), most=most, span=span))
        for tick in ticks:
            tree.run(tick)
            if tree.is_over:
                return True
            tree.fail("a")
        tree.run(ticks[-1])
        return tree.is_over

    def test_the_window_at_its_border(self):
        for most, span, ticks, gives_up in (
                (0, 1, (0,), True), (0, 10 ** 9, (7,), True), (1, 1, (0, 0), True), (1, 1, (0, 1), False),
                (1, 3, (0, 2), True), (1, 3, (0, 3), False), (1, 3, (0, 4), False), (1, 10, (5, 14), True),
                (1, 10, (5, 15), False), (2, 5, (0, 1, 4), True), (2, 5, (0, 1, 5), False), (2, 5, (0, 4, 5), False),
                (2, 5, (0, 4, 5, 8), True), (2, 5, (0, 4, 5, 9), False), (3, 2, (1, 1, 1, 2), True),
                (3, 2, (1, 1, 1, 3), False), (20, 9, (0,) * 20, False), (20, 9, (0,) * 21, True)):
            with self.subTest(most=most, span=span, ticks=ticks):
                self.assertEqual(self.gives_up(most, span, ticks), gives_up)

    def test_the_budget_at_each_tick(self):
        tree = ran(root(WorkerPlan("a"), most=2, span=3))
        budgets = []
        for tick in range(9):
            tree.run(tick)
            if tick in (1, 2, 4):
                tree.fail("a")
                tree.run(tick)
            budgets.append(tree.budget("root"))
        self.assertEqual(budgets, [2, 1, 0, 0, 0, 1, 1, 2, 2])
        self.assertEqual(tree.noted("root"), (1, 2, 4))

    def test_the_budget_between_two_steps_of_the_supervisor(self):
        tree = ran(root(WorkerPlan("a"), WorkerPlan("b", closing=3), strategy="all", most=2, span=3), 5)
        tree.fail("a")
        self.assertEqual((tree.budget("root"), tree.noted("root")), (2, ()))
        budgets = []
        for tick in (5, 7, 8):
            tree.run(tick)
            budgets.append(tree.budget("root"))
        self.assertEqual(budgets, [1, 1, 2])

    def test_the_note_by_which_it_gives_up_counts_as_well(self):
        tree = ran(root(WorkerPlan("a"), WorkerPlan("b", closing=5), most=1, span=4), 3)
        tree.fail("a")
        tree.fail("a")
        tree.run(4)
        self.assertEqual((tree.state_of("root"), tree.noted("root"), tree.budget("root")), ("closing", (3, 3), -1))
        tree.run(7)
        self.assertEqual((tree.noted("root"), tree.budget("root")), ((3, 3), 1))
        tree.run(8)
        self.assertEqual((tree.noted("root"), tree.budget("root")), ((), None))

    def test_a_note_is_of_the_tick_at_which_the_mend_begins(self):
        tree = ran(root(WorkerPlan("a", opening=4), WorkerPlan("b"), most=1, span=4), 4)
        tree.fail("a")
        tree.fail("b")
        # The mend of b waits for the opening of a, so its note is so much later, and the first one does not count.
        tree.run(9)
        self.assertEqual((tree.noted("root"), tree.is_quiet), ((4, 8), True))

    def test_a_new_process_has_no_notes(self):
        inner = SupervisorPlan("inner", WorkerPlan("a"), most=1, span=50)
        tree = ran(root(inner, most=1, span=50))
        tree.fail("a")
        tree.run(0)
        self.assertEqual((tree.noted("inner"), tree.budget("inner")), ((0,), 0))
        tree.fail("a")
        tree.run(0)
        self.assertEqual((tree.noted("inner"), tree.budget("inner"), tree.noted("root")), ((), 1, (0,)))
        tree.fail("a")
        tree.run(1)
        self.assertEqual((tree.noted("inner"), tree.budget("inner")), ((0,), 0))


class GivingUp(TreeCase):
    def test_all_places_are_stopped_in_reverse_order(self):
        tree, since = failed(three(most=0), "b")
        self.check_log(tree, """
            4 restart 1 b
            4 closing 1
            4 closing 4
            7 ended 4 shutdown
            7 closing 2
            9 ended 2 shutdown
            9 ended 1 gave_up
            """, since)

    def test_the_supervisor_above_mends_it(self):
        inner = SupervisorPlan("inner", WorkerPlan("a"), WorkerPlan("b", closing=2), most=0)
        tree, since = failed(root(WorkerPlan("y"), inner, WorkerPlan("z", closing=1), strategy="rest"), "a")
        self.check_log(tree, """
            4 restart 3 a
            4 closing 3
            4 closing 5
            6 ended 5 shutdown
            6 ended 3 gave_up
            6 restart 1 inner
            6 closing 6
            7 ended 6 shutdown
            7 started 7 inner 1
            7 started 8 a 7
            7 running 8
            7 started 9 b 7
            7 running 9
            7 running 7
            7 started 10 z 1
            7 running 10
            """, since)

    def test_one_after_the_other_up_to_the_root(self):
        plan = root(SupervisorPlan("inner", SupervisorPlan("deep", WorkerPlan("a"), most=0), most=0), most=0)
        tree, since = failed(plan, "a")
        self.check_log(tree, """
            4 restart 3 a
            4 closing 3
            4 ended 3 gave_up
            4 restart 2 deep
            4 closing 2
            4 ended 2 gave_up
            4 restart 1 inner
            4 closing 1
            4 ended 1 gave_up
            """, since)
        self.assertTrue(tree.is_over)

    def test_its_other_orders_are_dropped(self):
        # b has failed, too, and waits to be mended; x waits to be added.
        tree = ran(root(WorkerPlan("a", opening=2), WorkerPlan("b"), WorkerPlan("c"), most=2, span=9), 2)
        tree.fail("a")
        tree.fail("b")
        tree.fail("c")
        tree.add("root", WorkerPlan("x"))
        tree.take_out("c")
        since = tree.entries_count
        tree.run(9)
        self.check_log(tree, """
            4 running 5
            4 restart 1 b
            4 started 6 b 1
            4 running 6
            4 restart 1 c
            4 closing 1
            4 refused 1 x
            4 refused 1 c
            4 closing 6
            4 ended 6 shutdown
            4 closing 5
            4 ended 5 shutdown
            4 ended 1 gave_up
            """, since)

    def test_nothing_is_mended_any_more(self):
        tree = ran(root(WorkerPlan("a"), WorkerPlan("b"), WorkerPlan("c", closing=4), most=0), 1)
        tree.fail("a")
        tree.run(2)
        tree.fail("b")
        since = tree.entries_count
        tree.run(9)
        self.check_log(tree, """
            5 ended 4 shutdown
            5 ended 1 gave_up
            """, since)


class FailedStarts(TreeCase):
    def plan(self, strategy, refused=1, most=2, span=9):
        """A root whose second worker is refused at first when it is started again."""
        return root(WorkerPlan("a"), WorkerPlan("b", opening=1, refused=refused), WorkerPlan("c"), strategy=strategy,
                    most=most, span=span)

    def test_one(self):
        tree, since = failed(self.plan("one"), "b")
        self.check_log(tree, """
            4 restart 1 b
            4 started 5 b 1
            5 ended 5 refused
            5 restart 1 b
            5 started 6 b 1
            6 running 6
            """, since)

    def test_rest(self):
        tree, since = failed(self.plan("rest"), "b")
        self.check_log(tree, """
            4 restart 1 b
            4 closing 4
            4 ended 4 shutdown
            4 started 5 b 1
            5 ended 5 refused
            5 restart 1 b
            5 started 6 b 1
            6 running 6
            6 started 7 c 1
            6 running 7
            """, since)

    def test_all(self):
        tree, since = failed(self.plan("all"), "b")
        self.check_log(tree, """
            4 restart 1 b
            4 closing 4
            4 ended 4 shutdown
            4 closing 2
            4 ended 2 shutdown
            4 started 5 a 1
            4 running 5
            4 started 6 b 1
            5 ended 6 refused
            5 restart 1 b
            5 started 7 b 1
            6 running 7
            6 started 8 c 1
            6 running 8
            """, since)

    def test_the_start_of_another_place_than_the_one_that_failed(self):
        for strategy in ("rest", "all"):
            tree, _ = failed(self.plan(strategy), "a")
            self.assertEqual(tree.noted("root"), (4, 5))
            restarts = [line for line in told(tree) if "restart" in line]
            self.assertEqual(restarts, ["4 restart 1 a", "5 restart 1 b"])
            self.assertEqual([tree.starts_of(place) for place in ("a", "b", "c")], [2, 3, 2])

    def test_whatever_the_restart_of_the_place(self):
        plan = root(WorkerPlan("a"), WorkerPlan("b", restart="transient", refused=2), strategy="all", most=3)
        tree, _ = failed(plan, "a")
        self.assertEqual((tree.noted("root"), tree.starts_of("b")), ((4, 4, 4), 4))

    def test_it_gives_up_by_the_note_of_a_failed_start(self):
        for strategy in ("one", "rest", "all"):
            for refused, gives_up in ((1, False), (2, True)):
                tree, since = failed(self.plan(strategy, refused=refused), "b")
                self.assertEqual(tree.is_over, gives_up)
                self.assertEqual([line for line in told(tree, since) if "gave_up" in line],
                                 ["6 ended 1 gave_up"] if gives_up else [])

    def test_it_gives_up_amid_the_mend(self):
        tree, since = failed(self.plan("all", most=1), "b")
        self.check_log(tree, """
            4 restart 1 b
            4 closing 4
            4 ended 4 shutdown
            4 closing 2
            4 ended 2 shutdown
            4 started 5 a 1
            4 running 5
            4 started 6 b 1
            5 ended 6 refused
            5 restart 1 b
            5 closing 1
            5 closing 5
            5 ended 5 shutdown
            5 ended 1 gave_up
            """, since)

    def test_earlier_notes_that_do_not_count_any_more(self):
        # The opening of b takes as long as the window, so that each failed start finds the one before too old.
        plan = root(WorkerPlan("b", opening=5, refused=4), most=1, span=5)
        tree = ran(plan, 5)
        tree.fail("b")
        tree.run(40)
        self.assertEqual((tree.noted("root"), tree.starts_of("b"), tree.is_quiet), ((5, 10, 15, 20, 25), 6, True))

    def test_a_failed_start_ahead_of_other_mends(self):
        tree = ran(self.plan("one", most=5), 4)
        since = tree.entries_count
        tree.fail("b")
        tree.fail("c")
        tree.run(9)
        self.check_log(tree, """
            4 input fail ('b', 'failed')
            4 ended 3 failed
            4 restart 1 b
            4 started 5 b 1
            4 input fail ('c', 'failed')
            4 ended 4 failed
            5 ended 5 refused
            5 restart 1 b
            5 started 6 b 1
            6 running 6
            6 restart 1 c
            6 started 7 c 1
            6 running 7
            """, since)

    def test_a_mend_of_a_supervisor_that_is_refused(self):
        inner = SupervisorPlan("inner", WorkerPlan("w", refused=2), most=0)
        for most, notes in ((3, (4, 4, 4)), (2, None)):
            tree, _ = failed(root(inner, most=most), "w")
            if notes is None:
                self.assertEqual((tree.is_over, tree.reason_of("root")), (True, "gave_up"))
            else:
                self.assertEqual((tree.noted("root"), tree.starts_of("w"), tree.starts_of("inner")), (notes, 4, 4))


if __name__ == "__main__":
    unittest.main()
