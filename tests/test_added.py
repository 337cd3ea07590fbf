"""watchtree.trees: children that are added and removed, and the names that are taken (5.1, 10)."""

import unittest

from tests.samples import workers_of
from tests.telling import TreeCase, ran, root, row, told, worker
from watchtree.errors import NoPlace
from watchtree.plans import SupervisorPlan, WorkerPlan


def wide(many, most=1):
    """A root with so many plans in it, itself included, on at most three levels."""
    groups = []
    left = many - 1
    while left > 0:
        here = min(left, 12)
        groups.append(SupervisorPlan(f"g{len(groups)}", *workers_of(f"g{len(groups)}", here - 1), most=0))
        left -= here
    return root(*groups, most=most)


def deep(name, levels, most=0):
    """A supervisor plan with so many levels, each with one child."""
    plan = SupervisorPlan(f"{name}_{levels}", most=most)
    for level in range(levels - 1, 0, -1):
        plan = SupervisorPlan(f"{name}_{level}", plan, most=most)
    return plan


class Adding(TreeCase):
    def test_a_worker(self):
        tree = ran(root(WorkerPlan("a")), 3)
        since = tree.entries_count
        plan = WorkerPlan("x", opening=2)
        self.assertIsNone(tree.add("root", plan))
        self.assertEqual(("x" in tree, tree.listed("root")), (False, ("a",)))
        tree.run(3)
        self.assertEqual((tree.listed("root"), tree.state_of("x"), "x" in tree), (("a", "x"), "opening", True))
        self.assertIs(tree.plan_of("x"), plan)
        tree.run(9)
        lines = told(tree, since)
        self.assertTrue(lines[0].startswith("3 input add ('root', <"))
        self.assertEqual(lines[1:], ["3 added 1 x", "3 started 3 x 1", "5 running 3"])

    def test_a_supervisor(self):
        tree = ran(root(WorkerPlan("a")), 3)
        since = tree.entries_count + 1
        tree.add("root", SupervisorPlan("s", WorkerPlan("x"), WorkerPlan("y", opening=1)))
        tree.run(9)
        self.check_log(tree, """
            3 added 1 s
            3 started 3 s 1
            3 started 4 x 3
            3 running 4
            3 started 5 y 3
            4 running 5
            4 running 3
            """, since)
        self.assertEqual((tree.listed("s"), tree.budget("s"), tree.starts_of("y")), (("x", "y"), 1, 1))
        self.assertEqual([name in tree for name in ("s", "x", "y")], [True] * 3)

    def test_it_is_put_behind_all_other_orders(self):
        tree = ran(root(WorkerPlan("a", opening=2), most=5), 1)
        tree.add("root", WorkerPlan("x"))
        tree.add("root", WorkerPlan("y"))
        since = tree.entries_count
        tree.run(9)
        self.check_log(tree, """
            2 running 2
            2 running 1
            2 added 1 x
            2 started 3 x 1
            2 running 3
            2 added 1 y
            2 started 4 y 1
            2 running 4
            """, since)

    def test_added_children_are_mended_by_their_restart(self):
        tree = ran(root(most=9), 1)
        for restart in ("permanent", "transient", "temporary"):
            tree.add("root", WorkerPlan(restart, restart=restart))
        tree.run(1)
        for reason in ("failed", "normal"):
            for place in ("permanent", "transient"):
                tree.fail(place, reason)
                tree.run(1)
        self.assertEqual([tree.starts_of(place) for place in ("permanent", "transient")], [3, 2])
        tree.fail("temporary")
        tree.run(1)
        self.assertEqual((tree.listed("root"), "temporary" in tree), (("permanent", "transient"), False))

    def test_a_list_may_have_more_than_twelve_places(self):
        tree = ran(root(*workers_of("w", 12)), 1)
        for at in range(20):
            tree.add("root", WorkerPlan(f"x{at}"))
        tree.run(1)
        self.assertEqual(len(tree.listed("root")), 32)
        self.assertEqual(len(tree), 33)

    def test_a_start_that_fails_lets_the_place_leave_the_list(self):
        linker = worker("a", row("go", ("link", "x")))
        for restart in ("permanent", "transient", "temporary"):
            tree = ran(root(linker, most=3), 1)
            tree.add("root", WorkerPlan("x", opening=9, restart=restart))
            tree.send("a", "go")
            tree.run(3)
            tree.fail("a")
            since = tree.entries_count
            tree.run(20)
            self.check_log(tree, """
                3 signal 3 failed
                3 ended 3 failed
                3 removed 1 x
                3 restart 1 a
                3 started 4 a 1
                3 running 4
                """, since)
            self.assertEqual((tree.listed("root"), "x" in tree, tree.is_over), (("a",), False, False))

    def test_a_refused_add_is_taken_away(self):
        tree = ran(root(WorkerPlan("a")), 1)
        tree.add("root", WorkerPlan("a"))
        tree.add("root", WorkerPlan("x"))
        since = tree.entries_count
        tree.run(9)
        self.check_log(tree, """
            1 added 1 x
            1 started 3 x 1
            1 running 3
            """, since)
        self.assertIn("1 refused 1 a", told(tree))


class WhatCanBeAdded(TreeCase):
    def is_added(self, plan, place, added):
        """Whether a plan is added to the list of a place of a tree."""
        tree = ran(plan, 1)
        tree.add(place, added)
        since = tree.entries_count
        tree.run(1)
        number = tree.number_of(place)
        first, *others = told(tree, since)
        if first == f"1 added {number} {added.name}":
            self.assertEqual((tree.listed(place)[-1], tree.state_of(added.name)), (added.name, "running"))
            return True
        self.assertEqual((first, others), (f"1 refused {number} {added.name}", []))
        return False

    def test_names_of_the_root_s_plan_are_taken(self):
        plan = root(WorkerPlan("a"), SupervisorPlan("s", WorkerPlan("b")))
        for name in ("root", "a", "s", "b"):
            self.assertFalse(self.is_added(plan, "root", WorkerPlan(name)))
            self.assertFalse(self.is_added(plan, "s", SupervisorPlan(name)))
            self.assertFalse(self.is_added(plan, "s", SupervisorPlan("x", WorkerPlan("y"), WorkerPlan(name))))
        self.assertTrue(self.is_added(plan, "s", SupervisorPlan("x", WorkerPlan("y"))))

    def test_names_are_different_within_the_plan(self):
        self.assertFalse(self.is_added(root(), "root", SupervisorPlan("x", WorkerPlan("y"), WorkerPlan("y"))))
        self.assertFalse(self.is_added(root(), "root", SupervisorPlan("x", WorkerPlan("x"))))

    def test_names_of_removed_places_of_the_root_s_plan_stay_taken(self):
        tree = ran(root(WorkerPlan("a"), WorkerPlan("t", restart="temporary")), 1)
        tree.take_out("a")
        tree.fail("t")
        for name in ("a", "t"):
            tree.add("root", WorkerPlan(name))
        tree.run(1)
        self.assertEqual(tree.listed("root"), ())
        self.assertEqual([line for line in told(tree) if "refused" in line], ["1 refused 1 a", "1 refused 1 t"])

    def test_at_most_sixty_plans(self):
        self.assertTrue(self.is_added(wide(59), "root", WorkerPlan("x")))
        self.assertFalse(self.is_added(wide(60), "root", WorkerPlan("x")))
        self.assertTrue(self.is_added(wide(57), "root", SupervisorPlan("x", WorkerPlan("y"), WorkerPlan("z"))))
        self.assertFalse(self.is_added(wide(58), "root", SupervisorPlan("x", WorkerPlan("y"), WorkerPlan("z"))))
        self.assertTrue(self.is_added(root(), "root", SupervisorPlan("x", *wide(59).children)))

    def test_added_plans_count_while_their_names_are_taken(self):
        tree = ran(wide(58), 1)
        for name in ("x", "y", "z"):
            tree.add("root", WorkerPlan(name))
        tree.run(1)
        self.assertEqual(tree.listed("root")[-2:], ("x", "y"))
        tree.take_out("x")
        tree.add("root", WorkerPlan("z"))
        tree.run(1)
        self.assertEqual(tree.listed("root")[-2:], ("y", "z"))

    def test_removed_places_of_the_root_s_plan_count(self):
        tree = ran(wide(60), 1)
        tree.take_out("g0")
        tree.add("root", WorkerPlan("x"))
        tree.run(1)
        self.assertNotIn("x", tree)
        self.assertNotIn("g0", tree.listed("root"))

    def test_at_most_six_levels(self):
        plan = root(deep("d", 3), most=0)
        for place, levels in (("root", 5), ("d_1", 4), ("d_2", 3), ("d_3", 2)):
            self.assertTrue(self.is_added(plan, place, deep("x", levels)))
            self.assertFalse(self.is_added(plan, place, deep("x", levels + 1)))
        full = root(deep("d", 5), most=0)
        self.assertTrue(self.is_added(full, "d_4", WorkerPlan("x")))
        self.assertFalse(self.is_added(full, "d_5", WorkerPlan("x")))
        self.assertFalse(self.is_added(full, "d_5", SupervisorPlan("x")))

    def test_the_product_along_a_path(self):
        plan = root(SupervisorPlan("s", SupervisorPlan("t", most=4), most=9), SupervisorPlan("u", most=0), most=9)
        for place, most in (("root", 20), ("s", 9), ("t", 1), ("u", 20)):
            self.assertTrue(self.is_added(plan, place, SupervisorPlan("x", most=most)))
        for place, most in (("s", 10), ("t", 2)):
            self.assertFalse(self.is_added(plan, place, SupervisorPlan("x", most=most)))
        self.assertTrue(self.is_added(plan, "root", SupervisorPlan("x", SupervisorPlan("y", most=9), most=9)))
        self.assertFalse(self.is_added(plan, "root", SupervisorPlan("x", SupervisorPlan("y", most=10), most=9)))
        self.assertFalse(self.is_added(plan, "root", SupervisorPlan("x", WorkerPlan("z"), SupervisorPlan(
            "y", most=10), most=9)))
        self.assertTrue(self.is_added(plan, "t", WorkerPlan("x")))

    def test_levels_and_products_of_added_supervisors(self):
        tree = ran(root(most=9), 1)
        tree.add("root", SupervisorPlan("s", SupervisorPlan("t", most=9), most=9))
        tree.run(1)
        tree.add("t", SupervisorPlan("x", most=0))
        tree.add("t", SupervisorPlan("y", most=1))
        tree.add("x", deep("d", 2))
        tree.add("x", deep("e", 3))
        tree.run(1)
        self.assertEqual((tree.listed("t"), tree.listed("x")), (("x",), ("d_1",)))

    def test_a_name_that_is_taken_when_the_order_begins(self):
        # It was free when this was asked for, but the order ahead of it has taken it by then.
        tree = ran(root(WorkerPlan("a", opening=2)), 1)
        tree.add("root", WorkerPlan("x", closing=1))
        tree.add("root", SupervisorPlan("s", WorkerPlan("x")))
        since = tree.entries_count
        tree.run(2)
        self.assertEqual(told(tree, since)[-4:], ["2 added 1 x", "2 started 3 x 1", "2 running 3", "2 refused 1 s"])

    def test_a_name_that_is_free_when_the_order_begins(self):
        # It was taken when this was asked for, but the order ahead of it has freed it by then.
        tree = ran(root(), 1)
        tree.add("root", WorkerPlan("x", closing=2))
        tree.run(1)
        tree.take_out("x")
        tree.add("root", WorkerPlan("x", opening=1))
        self.assertEqual((tree.state_of("x"), tree.number_of("x")), ("closing", 2))
        tree.run(3)
        self.assertEqual((tree.state_of("x"), tree.number_of("x"), tree.starts_of("x")), ("opening", 3, 1))


class NamesAreFreed(TreeCase):
    def tree(self, *children, **settings):
        """A tree to whose supervisor s a supervisor x with a worker y was added, and to that a worker z."""
        tree = ran(root(SupervisorPlan("s", WorkerPlan("a"), most=0), *children, most=5, **settings), 1)
        tree.add("s", SupervisorPlan("x", WorkerPlan("y"), restart="temporary", most=0))
        tree.run(1)
        tree.add("x", WorkerPlan("z"))
        tree.run(1)
        self.check_names(tree, True)
        return tree

    def check_names(self, tree, *are_taken):
        """Whether the names x, y and z are taken; all of them if one truth is given."""
        for name, is_taken in zip("xyz", are_taken * 3 if len(are_taken) == 1 else are_taken):
            self.assertIs(name in tree, is_taken)
            if not is_taken:
                self.check_raises(NoPlace(name), tree.state_of, name)
                self.check_raises(NoPlace(name), tree.take_out, name)

    def test_when_the_place_is_removed(self):
        tree = self.tree()
        tree.take_out("x")
        self.check_names(tree, True)
        tree.run(1)
        self.check_names(tree, False)

    def test_when_it_leaves_the_list_as_a_temporary_one(self):
        tree = self.tree()
        tree.fail("y")
        self.check_names(tree, True)
        tree.run(1)
        self.check_names(tree, False)
        self.assertEqual(tree.reason_of("a"), None)

    def test_when_the_process_of_the_list_ends(self):
        tree = self.tree()
        tree.fail("a")
        tree.run(1)
        self.check_names(tree, False)
        self.assertEqual((tree.starts_of("s"), tree.listed("s")), (2, ("a",)))

    def test_when_the_tree_is_over(self):
        tree = self.tree()
        tree.stop()
        tree.run(1)
        self.assertTrue(tree.is_over)
        self.assertEqual([name in tree for name in ("x", "y", "z", "a", "s", "root")], [False] * 3 + [True] * 3)

    def test_not_when_a_place_below_it_is_removed(self):
        tree = self.tree()
        tree.take_out("y")
        tree.run(1)
        self.check_names(tree, True)
        self.assertEqual((tree.listed("x"), tree.state_of("y")), (("z",), "ended"))
        tree.take_out("z")
        tree.run(1)
        self.check_names(tree, True, True, False)

    def test_not_while_the_process_of_the_list_is_closing(self):
        tree = self.tree(WorkerPlan("c"))
        tree.add("s", WorkerPlan("last", closing=2))
        tree.run(1)
        tree.take_out("s")
        tree.run(2)
        self.check_names(tree, True)
        tree.run(3)
        self.check_names(tree, False)

    def test_added_places_below_a_place_that_starts_again(self):
        # The plan's place y stays the same with its number of starts, the added one z is gone.
        tree = ran(root(most=5), 1)
        tree.add("root", SupervisorPlan("x", WorkerPlan("y"), most=0))
        tree.run(1)
        tree.add("x", WorkerPlan("z"))
        tree.run(1)
        tree.fail("y")
        tree.run(1)
        self.check_names(tree, True, True, False)
        self.assertEqual((tree.starts_of("x"), tree.starts_of("y"), tree.listed("x")), (2, 2, ("y",)))

    def test_a_name_that_is_freed_can_be_that_of_another_place(self):
        tree = self.tree()
        tree.take_out("x")
        tree.add("root", WorkerPlan("y", opening=3))
        tree.run(1)
        self.assertEqual((tree.state_of("y"), tree.starts_of("y"), tree.listed("root")), ("opening", 1, ("s", "y")))


class Removing(TreeCase):
    def test_a_running_worker(self):
        tree = ran(root(WorkerPlan("a", closing=2), WorkerPlan("b")), 1)
        since = tree.entries_count
        self.assertIsNone(tree.take_out("a"))
        tree.run(9)
        self.check_log(tree, """
            1 input take_out ('a',)
            1 closing 2
            3 ended 2 shutdown
            3 removed 1 a
            """, since)
        self.assertEqual((tree.listed("root"), tree.state_of("a"), tree.reason_of("a")), (("b",), "ended", "shutdown"))
        self.assertTrue("a" in tree and tree.is_quiet)

    def test_a_supervisor_goes_with_all_below_it(self):
        tree = ran(root(SupervisorPlan("s", WorkerPlan("a"), WorkerPlan("b", closing=1)), WorkerPlan("c")), 1)
        since = tree.entries_count
        tree.take_out("s")
        tree.run(9)
        self.check_log(tree, """
            1 input take_out ('s',)
            1 closing 2
            1 closing 4
            2 ended 4 shutdown
            2 closing 3
            2 ended 3 shutdown
            2 ended 2 shutdown
            2 removed 1 s
            """, since)

    def test_a_temporary_place_leaves_the_list_just_once(self):
        tree = ran(root(WorkerPlan("a", restart="temporary", closing=1)), 1)
        since = tree.entries_count
        tree.take_out("a")
        tree.run(9)
        self.check_log(tree, """
            1 input take_out ('a',)
            1 closing 2
            2 ended 2 shutdown
            2 removed 1 a
            """, since)

    def test_a_place_without_a_process_is_removed_at_once(self):
        tree = ran(root(WorkerPlan("a", restart="transient"), WorkerPlan("b")), 1)
        tree.fail("a", "normal")
        tree.run(1)
        since = tree.entries_count
        tree.take_out("a")
        tree.run(9)
        self.check_log(tree, """
            1 input take_out ('a',)
            1 removed 1 a
            """, since)

    def test_it_is_put_behind_all_other_orders(self):
        tree = ran(root(WorkerPlan("a", opening=2), most=5), 2)
        tree.fail("a")
        tree.take_out("a")
        since = tree.entries_count
        tree.run(9)
        self.check_log(tree, """
            4 running 3
            4 closing 3
            4 ended 3 shutdown
            4 removed 1 a
            """, since)

    def test_a_removed_place_is_not_stopped_or_started_by_mends(self):
        tree = ran(root(WorkerPlan("a"), WorkerPlan("b"), WorkerPlan("c"), strategy="all"), 1)
        tree.take_out("b")
        tree.fail("a")
        tree.run(1)
        self.assertEqual([tree.starts_of(place) for place in ("a", "b", "c")], [2, 1, 2])

    def test_twice_in_a_row(self):
        tree = ran(root(WorkerPlan("a", closing=2)), 1)
        since = tree.entries_count
        tree.take_out("a")
        tree.take_out("a")
        tree.run(5)
        tree.take_out("a")
        tree.run(9)
        # The second order finds that the place has left the list; the third one is of no list.
        self.check_log(tree, """
            1 input take_out ('a',)
            1 closing 2
            1 input take_out ('a',)
            3 ended 2 shutdown
            3 removed 1 a
            5 input take_out ('a',)
            """, since)
        self.assertTrue(tree.is_quiet)


class DroppedOrders(TreeCase):
    def test_what_no_process_can_be_asked_has_no_entry(self):
        plan = root(SupervisorPlan("s", WorkerPlan("a")), WorkerPlan("b"))
        tree = ran(plan, 1)
        tree.take_out("s")
        tree.run(1)
        count = tree.entries_count
        tree.add("s", WorkerPlan("x"))
        tree.take_out("root")
        tree.take_out("s")
        tree.take_out("a")
        tree.run(9)
        self.assertEqual(tree.entries_count, count + 4)
        self.assertEqual((tree.listed("root"), tree.state_of("b"), "x" in tree), (("b",), "running", False))

    def test_a_supervisor_that_was_not_started_yet(self):
        tree = ran(root(WorkerPlan("a", opening=5), SupervisorPlan("s", WorkerPlan("b"))), 1)
        tree.add("s", WorkerPlan("x"))
        tree.take_out("b")
        tree.run(9)
        self.assertEqual((tree.listed("s"), tree.starts_of("b")), (("b",), 1))

    def test_a_closing_supervisor_drops_them_at_once(self):
        tree = ran(root(SupervisorPlan("s", WorkerPlan("a", closing=5))), 1)
        tree.take_out("s")
        tree.run(2)
        since = tree.entries_count
        tree.take_out("a")
        tree.run(2)
        tree.add("s", WorkerPlan("x"))
        lines = told(tree, since)
        self.assertEqual(lines[:2] + lines[3:], ["2 input take_out ('a',)", "2 refused 2 a", "2 refused 2 x"])
        tree.take_out("s")
        tree.run(20)
        self.assertEqual(told(tree, since)[4:],
                         ["2 input take_out ('s',)", "6 ended 3 shutdown", "6 ended 2 shutdown", "6 removed 1 s"])

    def test_orders_that_are_under_way_are_dropped_too(self):
        tree = ran(root(SupervisorPlan("s", WorkerPlan("a", closing=3)), SupervisorPlan("t")), 1)
        tree.take_out("a")
        tree.add("t", WorkerPlan("x", opening=9))
        tree.run(2)
        since = tree.entries_count
        tree.stop()
        tree.run(20)
        self.check_log(tree, """
            2 input stop ()
            2 closing 1
            2 closing 4
            2 refused 4 x
            2 closing 5
            2 ended 5 shutdown
            2 ended 4 shutdown
            2 closing 2
            2 refused 2 a
            4 ended 3 shutdown
            4 ended 2 shutdown
            4 ended 1 shutdown
            """, since)

    def test_a_killed_supervisor_drops_its_orders_behind_its_end(self):
        below = SupervisorPlan("deep", WorkerPlan("a", closing=9))
        inner = SupervisorPlan("inner", below, WorkerPlan("b", closing=9), deadline=1)
        tree = ran(root(inner), 1)
        tree.take_out("a")
        tree.add("deep", WorkerPlan("x"))
        tree.take_out("inner")
        since = tree.entries_count
        tree.run(20)
        self.check_log(tree, """
            1 closing 2
            1 closing 5
            2 ended 5 killed
            2 ended 4 killed
            2 ended 3 killed
            2 refused 3 a
            2 refused 3 x
            2 ended 2 killed
            2 removed 1 inner
            """, since)


class AskedByDeeds(TreeCase):
    """What a worker is told of the orders that it has asked for."""

    def tree(self, *deeds, removed=None):
        """A tree whose worker e does these deeds a tick later, and the number of its last entry before.

        A place may have been removed by then.
        """
        pair = SupervisorPlan("pair", WorkerPlan("p", closing=2), WorkerPlan("q", restart="transient"))
        tree = ran(root(worker("e", row("go", *deeds)), pair))
        if removed is not None:
            tree.take_out(removed)
            tree.run(5)
        tree.send("e", "go")
        return tree, tree.entries_count + 2

    def answers(self, tree):
        """The values that e is told."""
        return [line.split()[-1] for line in told(tree) if "sent" in line and "told" in line]

    def test_an_add_that_is_done(self):
        tree, since = self.tree(("add", "pair", WorkerPlan("x", opening=2)))
        tree.run(9)
        self.check_log(tree, """
            1 added 3 x
            1 started 6 x 3
            2 idle 2
            3 running 6
            3 sent 2 told None 2 told 1
            4 arrived 2 2
            """, since)

    def test_a_remove_that_is_done(self):
        tree, since = self.tree(("remove", "p"))
        tree.run(9)
        self.check_log(tree, """
            1 closing 4
            2 idle 2
            3 ended 4 shutdown
            3 removed 3 p
            3 sent 2 told None 2 told 1
            4 arrived 2 2
            """, since)

    def test_an_add_that_is_not_done(self):
        tree, since = self.tree(("add", "pair", WorkerPlan("q")), ("add", "root", WorkerPlan("y")))
        tree.run(9)
        self.check_log(tree, """
            1 refused 3 q
            1 sent 2 told None 2 told 0
            1 added 1 y
            1 started 6 y 1
            1 running 6
            1 sent 3 told None 2 told 1
            2 idle 2
            2 arrived 2 2
            2 arrived 3 2
            """, since)

    def test_an_add_whose_start_fails(self):
        binds = root(worker("e", row("go", ("add", "root", WorkerPlan("x", opening=9)))),
                     worker("f", row("bind", ("link", "x"))), most=3)
        tree = ran(binds)
        tree.send("e", "go")
        tree.run(2)
        tree.send("f", "bind")
        tree.run(3)
        tree.fail("f")
        since = tree.entries_count
        tree.run(3)
        self.check_log(tree, """
            3 signal 4 failed
            3 ended 4 failed
            3 removed 1 x
            3 sent 3 told None 2 told 0
            3 restart 1 f
            3 started 5 f 1
            3 running 5
            """, since)

    def test_orders_that_no_process_can_be_asked_for(self):
        gone = WorkerPlan("z")
        for deed in (("remove", "root"), ("remove", "no"), ("remove", "sender"), ("remove", "about"),
                     ("add", "no", gone), ("add", "sender", gone), ("add", "about", gone), ("add", "own", gone),
                     ("add", "p", gone)):
            with self.subTest(deed[:2]):
                tree, since = self.tree(deed)
                tree.run(1)
                self.check_log(tree, "1 sent 2 told None 2 told 0", since)
                self.assertNotIn("z", tree)

    def test_a_supervisor_without_a_process_and_places_that_are_in_no_list(self):
        for deed in (("add", "pair", WorkerPlan("z")), ("remove", "pair"), ("remove", "p")):
            with self.subTest(deed[:2]):
                tree, _ = self.tree(deed, removed="pair")
                tree.run(9)
                self.assertEqual([line for line in told(tree) if "refused" in line], [])
                self.assertEqual(self.answers(tree), ["0"])

    def test_a_closing_supervisor(self):
        tree, since = self.tree(("add", "pair", WorkerPlan("x")), ("remove", "q"))
        tree.take_out("pair")
        tree.run(1)
        lines = [line for line in told(tree, since) if "refused" in line or "told" in line]
        self.assertEqual(lines, ["1 refused 3 x", "1 sent 2 told None 2 told 0",
                                 "1 refused 3 q", "1 sent 3 told None 2 told 0"])

    def test_a_supervisor_that_drops_its_orders(self):
        tree, since = self.tree(("remove", "p"), ("add", "pair", WorkerPlan("x")))
        tree.run(1)
        since = tree.entries_count
        tree.take_out("pair")
        tree.run(1)
        self.check_log(tree, """
            1 input take_out ('pair',)
            1 closing 3
            1 refused 3 p
            1 sent 2 told None 2 told 0
            1 refused 3 x
            1 sent 3 told None 2 told 0
            1 closing 5
            1 ended 5 shutdown
            """, since)

    def test_a_place_that_has_left_the_list_by_the_time_is_removed_already(self):
        tree, _ = self.tree(("remove", "p"), ("remove", "p"))
        tree.run(3)
        self.assertEqual(self.answers(tree), ["1", "1"])
        self.assertEqual([line for line in told(tree) if "removed" in line], ["3 removed 3 p"])

    def test_own_and_a_worker_that_has_ended_by_then(self):
        tree, since = self.tree(("remove", "own"))
        tree.run(9)
        self.check_log(tree, """
            1 closing 2
            1 ended 2 shutdown
            1 removed 1 e
            1 sent 2 told None 2 told 1
            2 dropped 2
            """, since)

    def test_what_the_message_is_about(self):
        # An added place: about its supervisor. A removed one: about itself, if it still is a place.
        hears = (row("go", ("add", "pair", WorkerPlan("x")), ("remove", "p"), ("mode", "second")),
                 row("told", ("send", "about", "hey", 0), mode="second"))
        tree = ran(root(worker("e", *hears), SupervisorPlan("pair", WorkerPlan("p"), WorkerPlan("q"))))
        tree.send("e", "go")
        tree.run(9)
        self.assertEqual([line for line in told(tree) if "hey" in line],
                         ["2 sent 4 send 2 pair hey 0", "3 sent 5 send 2 p hey 0"])

    def test_about_an_added_place_that_is_gone(self):
        hears = (row("go", ("remove", "x")), row("told", ("send", "about", "q", 0)))
        tree = ran(root(worker("e", *hears)))
        tree.add("root", WorkerPlan("x"))
        tree.send("e", "go")
        tree.run(1)
        tree.add("root", WorkerPlan("x"))
        tree.run(9)
        # Another place has the name now; it is not meant.
        self.assertEqual((tree.state_of("x"), [line for line in told(tree) if " q " in line]), ("running", []))


if __name__ == "__main__":
    unittest.main()
