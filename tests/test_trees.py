"""watchtree.trees: the interface of trees, its errors, and ticks (2.2, 4, 11.1)."""

import unittest

from tests.histories import do, history_by_chance, root_by_chance, scripted_root, seeded
from tests.samples import ALL_KINDS, NO_INTEGERS, NO_STRINGS, NO_WORDS, TREE_REASONS, TREE_WORDS, chain_of, plan_of
from tests.telling import TreeCase, log_of, ran, root, row, told, worker
from watchtree.errors import (BadChild, BadReason, BadRoot, BadTick, BadValue, BadWord, NoPlace, NotRunning,
                              NotSupervisor, NotWorker)
from watchtree.plans import SupervisorPlan, WorkerPlan
from watchtree.trees import Tree

LARGEST = 10 ** 12
QUERIES = ("plan_of", "state_of", "number_of", "reason_of", "starts_of", "listed", "budget", "noted")
NO_PLACES = NO_STRINGS + ("", "no", "A", "a ", "own", "sender", "about", ["a"], ("a",))


def sample(**settings):
    """A tree with a worker, a supervisor with a worker, and a worker that is opening until the tick 20."""
    return ran(root(WorkerPlan("a"), SupervisorPlan("s", WorkerPlan("b", closing=5)), WorkerPlan("c", opening=20),
                    **settings), 1)


class NewTrees(TreeCase):
    def test_a_new_tree(self):
        plan = root(WorkerPlan("a"), SupervisorPlan("s"))
        tree = Tree(plan=plan)
        self.assertIs(tree.plan, plan)
        self.assertEqual((tree.tick, tree.is_over, tree.is_quiet, tree.next_tick, tree.running, tree.entries_count),
                         (0, False, False, 0, (), 2))
        self.assertEqual((len(tree), tree.state_of("root"), tree.listed("root")), (1, "opening", ("a", "s")))
        self.assertIs(tree.is_over, False)
        self.assertIs(tree.is_quiet, False)

    def test_bad_roots(self):
        for value in ALL_KINDS + (WorkerPlan("a"), [root()], (root(),), SupervisorPlan):
            self.check_raises(BadRoot("plan"), Tree, value)
        for plan, rule in ((root(WorkerPlan("root")), "names"), (plan_of(61), "size"), (chain_of(7), "levels"),
                           (root(SupervisorPlan("s", SupervisorPlan("t", most=10), most=9), most=9), "product")):
            self.check_raises(BadRoot(rule), Tree, plan)

    def test_the_first_rule_is_told(self):
        wrong = SupervisorPlan("a", *[chain_of(8, most=20) for _ in range(12)], most=20)
        self.check_raises(BadRoot("names"), Tree, wrong)
        self.check_raises(BadRoot("size"), Tree, SupervisorPlan("a", plan_of(61), chain_of(8, most=20)))
        self.check_raises(BadRoot("levels"), Tree, chain_of(8, most=20))

    def test_the_largest_roots(self):
        self.assertEqual(len(ran(plan_of(60))), 60)
        self.assertEqual(len(ran(chain_of(6))), 6)


class Ticks(TreeCase):
    def test_run_makes_the_tick_the_present_one_and_counts_entries(self):
        tree = Tree(root(WorkerPlan("a", opening=3), WorkerPlan("b", opening=2)))
        done = []
        for tick in (0, 0, 2, 3, 4, 9, 9, LARGEST, LARGEST):
            done.append((tree.run(tick), tree.tick, tree.next_tick))
        self.assertEqual(done, [(1, 0, 3), (0, 0, 3), (0, 2, 3), (2, 3, 5), (0, 4, 5), (2, 9, None), (0, 9, None),
                                (0, LARGEST, None), (0, LARGEST, None)])
        self.assertEqual(tree.run(tick=LARGEST), 0)

    def test_run_counts_the_entries_that_it_makes_itself(self):
        tree = Tree(root(WorkerPlan("a")))
        tree.send("a", "go")
        self.assertEqual(tree.entries_count, 7)
        self.assertEqual(tree.run(0), 0)
        self.assertEqual(tree.run(1), 1)

    def test_bad_ticks(self):
        tree = ran(root(WorkerPlan("a", opening=9)), 5)
        count = tree.entries_count
        for call in (tree.run, tree.run_until_quiet):
            for value in NO_INTEGERS + (4, 0, -1, LARGEST + 1, 10 ** 30):
                self.check_raises(BadTick(value), call, value)
        self.assertEqual((tree.tick, tree.entries_count, tree.next_tick), (5, count, 9))

    def test_steps_behind_the_last_tick_are_never_executed(self):
        tree = ran(root(WorkerPlan("a", opening=1), most=5, span=1), LARGEST - 1)
        tree.fail("a")
        self.assertEqual((tree.run(LARGEST - 1), tree.next_tick), (2, LARGEST))
        self.assertEqual((tree.run(LARGEST), tree.state_of("a"), tree.is_quiet), (1, "running", True))
        tree.fail("a")
        self.assertEqual((tree.run(LARGEST), tree.next_tick), (2, LARGEST + 1))
        self.assertEqual((tree.run_until_quiet(LARGEST), tree.is_quiet, tree.tick), (False, False, LARGEST))
        self.assertEqual((tree.state_of("a"), tree.run(LARGEST)), ("opening", 0))

    def test_deadlines_behind_the_last_tick_are_never_met(self):
        tree = ran(root(WorkerPlan("a", closing=10 ** 9, deadline=1)), LARGEST)
        tree.stop()
        tree.run(LARGEST)
        self.assertEqual((tree.next_tick, tree.is_quiet, tree.run_until_quiet(LARGEST), tree.state_of("a")),
                         (LARGEST + 1, False, False, "closing"))

    def test_a_deadline_can_be_the_next_of_all(self):
        tree = ran(root(WorkerPlan("a", closing=9, deadline=2)), 1)
        tree.stop()
        tree.run(1)
        self.assertEqual((tree.next_tick, tree.run_until_quiet(3), tree.tick), (3, True, 3))
        # The step at the end of its closing is still there, though the tree is over.
        self.assertEqual((tree.is_over, tree.next_tick), (True, 10))

    def test_run_until_quiet(self):
        tree = Tree(root(WorkerPlan("a", opening=3), WorkerPlan("b", opening=2)))
        self.assertIs(tree.run_until_quiet(2), False)
        self.assertEqual((tree.tick, tree.next_tick), (0, 3))
        self.assertIs(tree.run_until_quiet(tick=4), False)
        self.assertEqual((tree.tick, tree.next_tick), (3, 5))
        self.assertIs(tree.run_until_quiet(5), True)
        self.assertEqual((tree.tick, tree.is_quiet), (5, True))
        self.assertIs(tree.run_until_quiet(50), True)
        self.assertEqual(tree.tick, 5)

    def test_run_until_over(self):
        tree = ran(root(WorkerPlan("a"), WorkerPlan("b", closing=4), most=0), 3)
        tree.fail("a")
        self.assertIs(tree.run_until_quiet(6), False)
        self.assertIs(tree.run_until_quiet(LARGEST), True)
        self.assertEqual((tree.tick, tree.is_over, tree.is_quiet), (7, True, False))
        self.assertIs(tree.run_until_quiet(7), True)

    def test_running_in_parts_is_the_same(self):
        for seed in range(40):
            chance = seeded(seed)
            plan = scripted_root(chance) if seed % 2 else root_by_chance(chance)
            tree = Tree(plan)
            done = history_by_chance(chance, tree, 40)
            other = Tree(plan)
            for method, arguments in done:
                if method == "run":
                    made = sum(other.run(tick) for tick in range(other.tick, arguments[0]))
                    self.assertGreaterEqual(made, 0)
                do(other, method, arguments)
            self.assertEqual(log_of(other), log_of(tree))
            self.assertEqual((other.tick, other.next_tick), (tree.tick, tree.next_tick))

    def test_a_quiet_tree_at_rest(self):
        # 11.1: all processes run, no supervisor has an order, and only transient places may have none.
        quiet = 0
        for seed in range(120):
            chance = seeded(seed)
            tree = Tree(scripted_root(chance) if seed % 2 else root_by_chance(chance))
            history_by_chance(chance, tree, 25)
            if not tree.run_until_quiet(tree.tick + 500) or tree.is_over:
                continue
            quiet += 1
            self.assertEqual(len(tree.running), len(tree))
            for name in tree.running:
                if isinstance(tree.plan_of(name), SupervisorPlan):
                    for place in tree.listed(name):
                        if tree.state_of(place) != "running":
                            self.assertEqual(tree.plan_of(place).restart, "transient")
                            self.assertIn(tree.reason_of(place), ("normal", "shutdown"))
        self.assertGreater(quiet, 30)


class Inputs(TreeCase):
    def test_each_input_runs_the_present_tick_to_its_end(self):
        for method, arguments in (("fail", ("a",)), ("stop", ()), ("add", ("root", WorkerPlan("x"))),
                                  ("take_out", ("a",)), ("send", ("a", "go")), ("ask", ("a", "go"))):
            tree = Tree(root(WorkerPlan("a"), WorkerPlan("b", opening=1)))
            getattr(tree, method)(*arguments)
            self.assertEqual(told(tree)[:5], ["0 input start ()", "0 started 1 root 0", "0 started 2 a 1",
                                              "0 running 2", "0 started 3 b 1"])
            self.assertTrue(told(tree)[5].startswith(f"0 input {method}"))
            self.assertEqual(tree.tick, 0)

    def test_also_if_it_is_refused(self):
        for method, arguments, error in (
                ("fail", ("no",), NoPlace("no")), ("fail", ("root",), NotWorker("root")),
                ("fail", ("b",), NotRunning("b")), ("fail", ("a", "killed"), BadReason("killed")),
                ("add", ("no", 1), NoPlace("no")), ("add", ("a", 1), NotSupervisor("a")),
                ("add", ("root", 1), BadChild(0)), ("take_out", ("no",), NoPlace("no")),
                ("send", ("no", "go"), NoPlace("no")), ("send", ("a", "told"), BadWord("told")),
                ("ask", ("a", "go", "x"), BadValue("x"))):
            tree = Tree(root(WorkerPlan("a"), WorkerPlan("b", opening=1)))
            self.check_raises(error, getattr(tree, method), *arguments)
            self.assertEqual((tree.entries_count, tree.state_of("a")), (5, "running"))
            self.check_raises(error, getattr(tree, method), *arguments)
            self.assertEqual((tree.entries_count, tree.next_tick), (5, 1))

    def test_their_steps_wait(self):
        tree = ran(root(WorkerPlan("a"), most=9), 3)
        tree.fail("a")
        self.assertEqual((tree.next_tick, tree.is_quiet, tree.state_of("a")), (3, False, "ended"))
        self.assertEqual(tree.entries_count, 7)
        tree.fail("a")
        self.assertEqual((tree.entries_count, tree.number_of("a")), (12, 3))

    def test_no_place(self):
        tree = sample()
        count = tree.entries_count
        for value in NO_PLACES + ("x",):
            for call, others in ((tree.fail, ()), (tree.fail, (1,)), (tree.add, (None,)), (tree.take_out, ()),
                                 (tree.send, (1, 2)), (tree.ask, (1,))):
                self.check_raises(NoPlace(value), call, value, *others)
        self.assertEqual(tree.entries_count, count)

    def test_fail(self):
        tree = sample()
        for place in ("root", "s"):
            for reason in ("failed", "killed", None):
                self.check_raises(NotWorker(place), tree.fail, place, reason)
        for place in ("a", "c"):
            for reason in NO_WORDS + TREE_REASONS:
                self.check_raises(BadReason(reason), tree.fail, place, reason)
        self.check_raises(NotRunning("c"), tree.fail, "c")
        self.assertIsNone(tree.fail("a"))
        # It has ended, and c has to be started ahead of its mend.
        self.check_raises(NotRunning("a"), tree.fail, "a", "failed")
        tree.take_out("b")
        tree.run(1)
        self.assertEqual(tree.state_of("b"), "closing")
        self.check_raises(NotRunning("b"), tree.fail, "b", "failed")
        self.assertEqual(tree.reason_of("a"), "failed")

    def test_reasons(self):
        for reason in ("failed", "normal", "a", "answer", "own", "b" * 20, "killed_"):
            tree = ran(root(WorkerPlan("a")))
            tree.fail(place="a", reason=reason)
            self.assertEqual(tree.reason_of("a"), reason)

    def test_add(self):
        tree = sample()
        for value in ALL_KINDS + (WorkerPlan, [WorkerPlan("x")]):
            for place in ("a", "b", "c"):
                self.check_raises(NotSupervisor(place), tree.add, place, value)
            self.check_raises(BadChild(0), tree.add, "root", value)
            self.check_raises(BadChild(0), tree.add, "s", value)
        self.assertIsNone(tree.add(place="s", plan=WorkerPlan("x")))
        tree.run(1)
        self.assertEqual(tree.listed("s"), ("b", "x"))

    def test_send_and_ask(self):
        tree = sample()
        for call in (tree.send, tree.ask):
            for place in ("a", "root", "c"):
                for word in NO_WORDS + TREE_WORDS:
                    self.check_raises(BadWord(word), call, place, word, None)
                for value in NO_INTEGERS + (LARGEST + 1, -LARGEST - 1, ("plus", 1)):
                    self.check_raises(BadValue(value), call, place, "go", value)
        numbers = [tree.send("a", "go"), tree.ask("s", "own", -LARGEST), tree.send("c", "killed", LARGEST),
                   tree.ask(place="b", word="q", value=0)]
        self.assertEqual(numbers, [1, 2, 3, 4])

    def test_stop_and_take_out_return_nothing(self):
        tree = sample()
        self.assertIsNone(tree.take_out("a"))
        self.assertIsNone(tree.stop())


class Queries(TreeCase):
    def test_each_one(self):
        tree = sample(most=4, span=7)
        told_now = {place: tuple(getattr(tree, query)(place) for query in QUERIES[1:5])
                    for place in ("root", "a", "s", "b", "c")}
        self.assertEqual(told_now, {"root": ("opening", 1, None, 1), "a": ("running", 2, None, 1),
                                    "s": ("running", 3, None, 1), "b": ("running", 4, None, 1),
                                    "c": ("opening", 5, None, 1)})
        self.assertEqual([tree.listed("root"), tree.listed("s")], [("a", "s", "c"), ("b",)])
        self.assertEqual([tree.budget("root"), tree.budget("s"), tree.noted("root")], [4, 1, ()])
        for plan in (tree.plan, *tree.plan.children, tree.plan.children[1].children[0]):
            self.assertIs(tree.plan_of(plan.name), plan)

    def test_a_place_that_was_not_started(self):
        tree = Tree(root(WorkerPlan("a"), SupervisorPlan("s")))
        for place in ("a", "s"):
            self.assertEqual([getattr(tree, query)(place) for query in QUERIES[1:5]], [None, None, None, 0])
        self.assertEqual((tree.listed("s"), tree.budget("s"), tree.noted("s")), ((), None, ()))

    def test_a_place_whose_process_has_ended(self):
        tree = sample(most=4)
        tree.fail("a", "crash")
        self.assertEqual([getattr(tree, query)("a") for query in QUERIES[1:5]], ["ended", 2, "crash", 1])
        tree.run(20)
        self.assertEqual([getattr(tree, query)("a") for query in QUERIES[1:5]], ["running", 6, None, 2])
        tree.take_out("s")
        tree.run(20)
        self.assertEqual((tree.state_of("s"), tree.listed("s"), tree.budget("s")), ("closing", ("b",), 1))
        tree.run(30)
        self.assertEqual((tree.state_of("s"), tree.listed("s"), tree.budget("s"), tree.noted("s")),
                         ("ended", (), None, ()))

    def test_errors(self):
        tree = sample()
        for query in QUERIES:
            for value in NO_PLACES + ("x",):
                self.check_raises(NoPlace(value), getattr(tree, query), value)
        for query in ("listed", "budget", "noted"):
            for place in ("a", "b", "c"):
                self.check_raises(NotSupervisor(place), getattr(tree, query), place)

    def test_they_do_not_run_the_tick_and_change_nothing(self):
        tree = Tree(root(WorkerPlan("a")))
        for query in QUERIES:
            getattr(tree, query)(place="root")
        for name in ("tick", "is_over", "is_quiet", "next_tick", "plan", "running", "entries_count"):
            getattr(tree, name)
        self.assertEqual((len(tree), tree.entries_count, tree.next_tick), (1, 2, 0))

    def test_names(self):
        tree = sample()
        for name in ("root", "a", "s", "b", "c"):
            self.assertIs(name in tree, True)
        for value in NO_PLACES + ("x",):
            self.assertIs(value in tree, False)

    def test_length_and_running(self):
        tree = sample(most=9)
        self.assertEqual((len(tree), tree.running), (5, ("a", "s", "b")))
        tree.run(20)
        self.assertEqual((len(tree), tree.running), (5, ("root", "a", "s", "b", "c")))
        tree.fail("a")
        self.assertEqual((len(tree), tree.running), (4, ("root", "s", "b", "c")))
        tree.take_out("s")
        tree.run(20)
        # s and b are closing: they have not ended, and do not run.
        self.assertEqual((len(tree), tree.running), (5, ("root", "a", "c")))
        tree.stop()
        tree.run(30)
        self.assertEqual((len(tree), tree.running), (0, ()))


class Twins(TreeCase):
    def test_a_twin_goes_on_by_itself(self):
        tree = sample(most=4)
        tree.fail("a")
        other = tree.twin()
        self.assertEqual(log_of(other), log_of(tree))
        self.assertIsInstance(other, Tree)
        before = log_of(tree)
        other.run(50)
        other.stop()
        other.run(60)
        self.assertEqual((log_of(tree), tree.tick, tree.state_of("a"), tree.is_over), (before, 1, "ended", False))
        self.assertEqual((other.tick, other.is_over), (60, True))

    def test_both_do_the_same(self):
        for seed in range(60):
            chance = seeded(seed)
            tree = Tree(scripted_root(chance) if seed % 3 else root_by_chance(chance))
            done = history_by_chance(chance, tree, 15)
            other = tree.twin()
            before = log_of(tree)
            for method, arguments in history_by_chance(chance, other, 15):
                done.append((method, arguments))
            self.assertEqual(log_of(tree), before)
            again = Tree(tree.plan)
            for method, arguments in done:
                do(again, method, arguments)
            self.assertEqual(log_of(again), log_of(other))
            self.assertEqual((again.tick, again.running, again.next_tick), (other.tick, other.running, other.next_tick))

    def test_the_twin_of_a_tree_with_messages_links_and_timers(self):
        rows = (row("start", ("link", "b"), ("monitor", "b"), ("later", 5, "x", 1), ("ask", "b", "q", 1)),
                row("down", ("note", "down")), row("back", ("note", "back")), row("x", ("note", "x")))
        plan = root(WorkerPlan("b"), worker("a", *rows), most=9)
        tree = ran(plan, 3)
        other = tree.twin()
        tree.fail("b")
        tree.run(20)
        middle = other.twin()
        other.run(20)
        middle.fail("b")
        middle.run(20)
        self.assertEqual(log_of(middle), log_of(tree))
        self.assertEqual(other.tick, 20)
        self.assertNotEqual(log_of(other), log_of(tree))


if __name__ == "__main__":
    unittest.main()
