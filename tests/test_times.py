"""watchtree.times: how long starts and shutdowns take, and what a shutdown does."""

import unittest

from tests.histories import all_plans, plain_root, root_by_chance, seeded
from tests.telling import TreeCase, log_of, ran, root, row, worker
from watchtree.errors import NotQuiet
from watchtree.plans import SupervisorPlan, WorkerPlan, changed
from watchtree.times import least_deadlines, opening_time, shutdown_told, stopping_time
from watchtree.trees import Tree


def ends_of(tree, since):
    """The triples of the ends behind an entry."""
    names = {data[0]: data[1] for _, _, _, word, data in log_of(tree) if word == "started"}
    return tuple((names[data[0]], tick, data[1]) for number, tick, _, word, data in log_of(tree)
                 if word == "ended" and number > since)


class Times(TreeCase):
    def test_opening_times(self):
        pair = SupervisorPlan("pair", WorkerPlan("b", opening=3), WorkerPlan("c", opening=4, refused=5))
        plan = root(WorkerPlan("a", opening=2, closing=50), pair, SupervisorPlan("none"))
        for one, ticks in ((WorkerPlan("a"), 0), (WorkerPlan("a", opening=10 ** 9), 10 ** 9), (SupervisorPlan("s"), 0),
                           (pair, 7), (plan, 9)):
            self.assertEqual(opening_time(one), ticks)
        self.assertEqual(opening_time(plan=plan), 9)

    def test_stopping_times(self):
        for closing, deadline, ticks in ((0, None, 0), (5, None, 5), (5, 5, 5), (5, 4, 4), (5, 6, 5), (5, 0, 0)):
            self.assertEqual(stopping_time(WorkerPlan("a", closing=closing, deadline=deadline)), ticks)
        for deadline, ticks in ((None, 6), (7, 6), (6, 6), (5, 5), (0, 0)):
            pair = SupervisorPlan("pair", WorkerPlan("b", closing=4, opening=9), WorkerPlan("c", closing=3, deadline=2),
                                  deadline=deadline)
            self.assertEqual(stopping_time(pair), ticks)
            self.assertEqual(stopping_time(plan=root(pair, WorkerPlan("d", closing=1))), ticks + 1)
        self.assertEqual(stopping_time(SupervisorPlan("s", deadline=3)), 0)

    def test_least_deadlines(self):
        pair = SupervisorPlan("pair", WorkerPlan("b", closing=4, deadline=1), WorkerPlan("c", closing=3), deadline=2)
        plan = root(WorkerPlan("a", closing=2, opening=7), pair, SupervisorPlan("none"), deadline=0)
        self.assertEqual(least_deadlines(plan), {"root": 9, "a": 2, "pair": 7, "b": 4, "c": 3, "none": 0})
        self.assertEqual(least_deadlines(plan=WorkerPlan("a", closing=6)), {"a": 6})

    def test_what_is_returned_belongs_to_the_caller(self):
        plan = root(WorkerPlan("a", closing=2))
        least_deadlines(plan).clear()
        self.assertEqual(least_deadlines(plan), {"root": 2, "a": 2})


class ShutdownsTold(TreeCase):
    def test_not_quiet(self):
        over = ran(root(WorkerPlan("a"), most=0))
        over.fail("a")
        over.run(0)
        self.assertTrue(over.is_over)
        waiting = ran(root(worker("a", row("start", ("later", 9, "x", 0), ("cancel", "x")))), 3)
        opening = ran(root(WorkerPlan("a", opening=3)), 2)
        for tree in (Tree(root()), Tree(root(WorkerPlan("a"))), opening, over, waiting):
            count = tree.entries_count
            self.check_raises(NotQuiet(), shutdown_told, tree)
            self.assertEqual(tree.entries_count, count)
        self.assertEqual(shutdown_told(ran(root())), (("root", 0, "shutdown"),))

    def test_the_tree_stays_as_it_was(self):
        tree = ran(root(WorkerPlan("a", closing=3), WorkerPlan("b", closing=2, deadline=1)), 7)
        before = log_of(tree)
        ends = (("b", 8, "killed"), ("a", 11, "shutdown"), ("root", 11, "shutdown"))
        self.assertEqual([shutdown_told(tree), shutdown_told(tree=tree)], [ends, ends])
        self.assertEqual((log_of(tree), tree.tick, tree.is_quiet, len(tree)), (before, 7, True, 3))

    def test_only_processes_that_have_not_ended(self):
        plan = root(WorkerPlan("a", restart="transient", closing=9), WorkerPlan("b", restart="temporary", closing=9),
                    SupervisorPlan("s", WorkerPlan("c", closing=9)), WorkerPlan("d", closing=1))
        tree = ran(plan, 2)
        tree.fail("a", "normal")
        tree.fail("b")
        tree.take_out("s")
        tree.run_until_quiet(50)
        self.assertEqual((tree.tick, shutdown_told(tree)), (11, (("d", 12, "shutdown"), ("root", 12, "shutdown"))))

    def test_added_children(self):
        tree = ran(root(WorkerPlan("a", closing=1)), 2)
        tree.add("root", SupervisorPlan("s", WorkerPlan("b", closing=4), deadline=2))
        tree.run(2)
        self.assertEqual(shutdown_told(tree), (("b", 4, "killed"), ("s", 4, "killed"), ("a", 5, "shutdown"),
                                               ("root", 5, "shutdown")))

    def test_beyond_the_last_tick(self):
        last = 10 ** 12
        plan = root(WorkerPlan("a", closing=10 ** 9), WorkerPlan("b", closing=5),
                    SupervisorPlan("s", WorkerPlan("c", closing=10 ** 9), deadline=10 ** 9 - 1))
        tree = ran(plan, last)
        self.assertEqual(shutdown_told(tree), (
            ("c", last + 10 ** 9 - 1, "killed"), ("s", last + 10 ** 9 - 1, "killed"),
            ("b", last + 10 ** 9 + 4, "shutdown"), ("a", last + 2 * 10 ** 9 + 4, "shutdown"),
            ("root", last + 2 * 10 ** 9 + 4, "shutdown")))
        self.assertEqual((tree.tick, tree.is_quiet), (last, True))

    def test_deadlines_that_are_just_reached_and_just_missed(self):
        for deadline, reason in ((7, "shutdown"), (6, "killed")):
            plan = root(SupervisorPlan("s", WorkerPlan("a", closing=4), WorkerPlan("b", closing=3), deadline=deadline))
            told_now = shutdown_told(ran(plan))
            self.assertEqual(told_now, (("b", 3, "shutdown"), ("a", deadline, reason), ("s", deadline, reason),
                                        ("root", deadline, "shutdown")))

    def test_what_is_started_on_the_way(self):
        # Beyond what is asked for: by its link, a is mended while z is waited for, and this process is stopped then.
        links = worker("a", row("go", ("link", "z")), closing=1)
        tree = ran(root(SupervisorPlan("s", links), WorkerPlan("y", closing=3), WorkerPlan("z", closing=9, deadline=2)))
        tree.send("a", "go")
        tree.run_until_quiet(50)
        self.assertEqual((tree.tick, shutdown_told(tree)), (2, (
            ("z", 4, "killed"), ("a", 4, "killed"), ("y", 7, "shutdown"), ("a", 8, "shutdown"), ("s", 8, "shutdown"),
            ("root", 8, "shutdown"))))

    def test_workers_with_messages_that_wait(self):
        tree = ran(root(worker("a", row("start", ("send", "own", "go", 0)), closing=2)), 0)
        tree.run_until_quiet(50)
        self.assertEqual(shutdown_told(tree), (("a", 3, "shutdown"), ("root", 3, "shutdown")))


class Facts(TreeCase):
    def test_a_supervisor_runs_after_its_opening_time(self):
        for seed in range(200):
            plan = plain_root(seeded(seed))
            tree = Tree(plan)
            tree.run_until_quiet(10 ** 6)
            self.assertEqual(tree.tick, opening_time(plan))
            began = {data[1]: (data[0], tick) for _, tick, _, word, data in log_of(tree) if word == "started"}
            ran_at = {data[0]: tick for _, tick, _, word, data in log_of(tree) if word == "running"}
            for one in all_plans(plan):
                number, tick = began[one.name]
                self.assertEqual(ran_at[number] - tick, opening_time(one))

    def test_the_root_has_ended_after_its_stopping_time(self):
        for seed in range(200):
            chance = seeded(seed)
            plan = plain_root(chance)
            tree = Tree(plan)
            tree.run_until_quiet(10 ** 6)
            ends = shutdown_told(tree)
            self.assertEqual(ends[-1][:2], (plan.name, tree.tick + stopping_time(plan)))
            since = tree.entries_count
            start = tree.tick
            tree.stop()
            tree.run(start + 1000)
            self.assertEqual(ends_of(tree, since), ends)

    def test_a_place_that_is_removed_has_ended_after_its_stopping_time(self):
        for seed in range(100):
            chance = seeded(seed)
            plan = plain_root(chance)
            one = chance.choice(all_plans(plan)[1:])
            tree = Tree(plan)
            tree.run_until_quiet(10 ** 6)
            start, since = tree.tick, tree.entries_count
            tree.take_out(one.name)
            tree.run(start + 1000)
            self.assertEqual(ends_of(tree, since)[-1][:2], (one.name, start + stopping_time(one)))

    def test_what_is_killed_and_in_which_order(self):
        kept = 0
        for seed in range(300):
            plan = plain_root(seeded(seed))
            tree = Tree(plan)
            tree.run_until_quiet(10 ** 6)
            ends = shutdown_told(tree)
            place = {name: at for at, (name, _, _) in enumerate(ends)}
            least = least_deadlines(plan)
            is_enough = all(one.deadline is None or one.deadline >= least[one.name] for one in all_plans(plan))
            self.assertEqual(is_enough, all(reason != "killed" for _, _, reason in ends))
            kept += is_enough
            for one in all_plans(plan):
                children = getattr(one, "children", ())
                for child in children:
                    self.assertLess(place[child.name], place[one.name])
                for first, second in zip(children, children[1:]):
                    self.assertLess(place[second.name], place[first.name])
        self.assertTrue(30 < kept < 270)

    def test_the_least_deadlines_are_the_least_ones(self):
        for seed in range(60):
            plan = plain_root(seeded(seed))
            least = least_deadlines(plan)
            for name in least:
                plan = changed(plan, name, deadline=least[name])
            self.assertNotIn("killed", [reason for _, _, reason in self.ends(plan)])
            for name in least:
                if least[name] > 0:
                    ends = self.ends(changed(plan, name, deadline=least[name] - 1))
                    self.assertIn((name, "killed"), [(place, reason) for place, _, reason in ends])

    def ends(self, plan):
        tree = Tree(plan)
        tree.run_until_quiet(10 ** 6)
        return shutdown_told(tree)

    def test_trees_by_chance_with_temporary_and_added_children(self):
        for seed in range(100):
            chance = seeded(seed)
            tree = Tree(root_by_chance(chance))
            tree.run(3)
            tree.add(tree.plan.name, WorkerPlan("extra", closing=chance.choice((0, 2)), deadline=1))
            for one in all_plans(tree.plan):
                if chance.random() < 0.3 and tree.state_of(one.name) == "running" and isinstance(one, WorkerPlan):
                    tree.fail(one.name)
                    break
            if tree.run_until_quiet(1000) and not tree.is_over:
                ends, since = shutdown_told(tree), tree.entries_count
                tree.stop()
                tree.run(2000)
                self.assertEqual(ends_of(tree, since), ends)


if __name__ == "__main__":
    unittest.main()
