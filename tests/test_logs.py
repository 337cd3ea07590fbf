"""watchtree.logs: entries, chains, effects and inputs of trees, and trees that are played (15, 4.3)."""

import types
import unittest

from tests.histories import do, history_by_chance, root_by_chance, scripted_root, seeded
from tests.samples import ALL_KINDS, NO_INTEGERS, NO_STRINGS, NO_TUPLES, chain_of, plan_of
from tests.telling import TreeCase, lines_with, log_of, ran, root, row, told, worker
from watchtree.errors import BadInput, BadRoot, NoEntry
from watchtree.logs import chain, effects, entries, inputs, played
from watchtree.messages import answer_of, counts
from watchtree.plans import SupervisorPlan, WorkerPlan
from watchtree.trees import Tree

LARGEST = 10 ** 12
METHODS = ("add", "ask", "fail", "send", "stop", "take_out")


def trees(many, inputs_of_each=30):
    """Trees with scripts and without, that had a history by chance."""
    for seed in range(many):
        chance = seeded(seed)
        tree = Tree(scripted_root(chance) if seed % 3 else root_by_chance(chance))
        history_by_chance(chance, tree, inputs_of_each)
        yield tree


class Entries(TreeCase):
    def test_a_generator(self):
        tree = ran(root(WorkerPlan("a")), 3)
        found = entries(tree)
        self.assertIsInstance(found, types.GeneratorType)
        self.assertEqual(next(found), (1, 0, 0, "input", ("start", ())))
        self.assertEqual([entry[0] for entry in found], [2, 3, 4, 5])
        self.assertEqual(list(found), [])
        self.assertEqual(len(list(entries(tree=tree))), tree.entries_count)

    def test_of_a_new_tree(self):
        self.assertEqual(list(entries(Tree(root()))),
                         [(1, 0, 0, "input", ("start", ())), (2, 0, 1, "started", (1, "root", 0))])

    def test_their_parts(self):
        for tree in trees(30):
            log = list(entries(tree))
            self.assertEqual([entry[0] for entry in log], list(range(1, tree.entries_count + 1)))
            for number, tick, cause, word, data in log:
                self.assertTrue(type(number) is type(tick) is type(cause) is int and 0 <= cause < number)
                self.assertTrue(type(word) is str and type(data) is tuple and 0 <= tick <= tree.tick)

    def test_the_tree_can_go_on_while_they_are_read(self):
        tree = ran(root(WorkerPlan("a"), most=9), 1)
        found = []
        for entry in entries(tree):
            found.append(entry[0])
            tree.send("a", "go")
            self.assertLessEqual(len(found), 5)
        self.assertEqual(found, [1, 2, 3, 4, 5])


class Chains(TreeCase):
    def test_from_the_entry_to_its_input(self):
        tree = ran(root(WorkerPlan("a"), WorkerPlan("b", opening=2)), 3)
        tree.fail("a")
        tree.run(9)
        self.assertEqual(told(tree)[7:], ["3 input fail ('a', 'failed')", "3 ended 2 failed", "3 restart 1 a",
                                          "3 started 4 a 1", "3 running 4"])
        self.assertEqual([chain(tree, number) for number in (1, 2, 7, 8, 9, 10, 12)], [
            (1,), (2, 1), (7, 6, 5, 4, 3, 1), (8,), (9, 8), (10, 8), (12, 11, 10, 8)])
        self.assertEqual(chain(number=9, tree=tree), (9, 8))

    def test_effects(self):
        tree = ran(root(WorkerPlan("a"), WorkerPlan("b", opening=2)), 3)
        tree.fail("a")
        tree.run(9)
        self.assertEqual([effects(tree, number) for number in (1, 2, 3, 5, 7, 8, 9, 10, 12)], [
            (2, 3, 4, 5, 6, 7), (), (4, 5, 6, 7), (6, 7), (), (9, 10, 11, 12), (), (11, 12), ()])
        self.assertEqual(effects(number=8, tree=tree), (9, 10, 11, 12))

    def test_no_entry(self):
        tree = ran(root(WorkerPlan("a")), 3)
        self.assertEqual(tree.entries_count, 5)
        for value in NO_INTEGERS + (0, -1, -5, 6, 10 ** 30, (1,), [1], "1"):
            for call in (chain, effects):
                self.check_raises(NoEntry(value), call, tree, value)
        self.assertEqual((chain(tree, 5)[0], effects(tree, 5)), (5, ()))

    def test_they_fit_together(self):
        # 15.3: each entry is an input, or an effect of just one input.
        for tree in trees(40):
            log = log_of(tree)
            chains = {number: chain(tree, number) for number, *_ in log}
            for number, _, cause, word, _ in log:
                found = chains[number]
                self.assertEqual(found[0], number)
                self.assertEqual(found[1:], chains[cause] if cause else ())
                self.assertEqual(sorted(found, reverse=True), list(found))
                self.assertEqual([log[one - 1][3] == "input" for one in found], [False] * (len(found) - 1) + [True])
            for number in list(chains)[::7]:
                expected = tuple(one for one in chains if one != number and number in chains[one])
                self.assertEqual(effects(tree, number), expected)
            owned = [one for number, _, _, word, _ in log if word == "input"
                     for one in (number,) + effects(tree, number)]
            self.assertEqual(sorted(owned), list(chains))


class Inputs(TreeCase):
    def test_all_methods_with_all_arguments(self):
        tree = ran(root(WorkerPlan("a", closing=1), SupervisorPlan("s"), most=9), 1)
        plan = WorkerPlan("x")
        tree.fail("a")
        tree.fail(place="a", reason="crash")
        tree.run(2)
        tree.send("a", "go")
        tree.send(value=4, word="go", place="a")
        tree.run(7)
        tree.ask("a", "go")
        tree.ask("root", "go", -1)
        tree.add(plan=plan, place="s")
        tree.take_out(place="root")
        tree.stop()
        tree.stop()
        self.assertEqual(inputs(tree), (
            (1, "fail", ("a", "failed")), (1, "fail", ("a", "crash")), (2, "send", ("a", "go", 0)),
            (2, "send", ("a", "go", 4)), (7, "ask", ("a", "go", 0)), (7, "ask", ("root", "go", -1)),
            (7, "add", ("s", plan)), (7, "take_out", ("root",)), (7, "stop", ()), (7, "stop", ())))
        self.assertIs(inputs(tree=tree)[6][2][1], plan)

    def test_without_the_start_and_refused_ones(self):
        tree = Tree(root(WorkerPlan("a")))
        self.assertEqual(inputs(tree), ())
        for method, arguments in (("fail", ("no",)), ("fail", ("root",)), ("send", ("a", "told")),
                                  ("add", ("a", WorkerPlan("x"))), ("take_out", ("x",))):
            do(tree, method, arguments)
        tree.run(5)
        tree.run(9)
        self.assertEqual(inputs(tree), ())


class Histories(TreeCase):
    def test_equal_up_to_an_input(self):
        # 15.3: the logs in front of it are equal, whatever follows.
        for seed in range(60):
            chance = seeded(seed)
            tree = Tree(scripted_root(chance) if seed % 3 else root_by_chance(chance))
            history_by_chance(chance, tree, 15)
            other = tree.twin()
            tick = tree.tick + chance.randint(0, 3)
            logs = []
            for one in (tree, other):
                one.run(tick)
                since = len(log_of(one))
                history_by_chance(chance, one, 10)
                logs.append(log_of(one)[:since])
            self.assertEqual(logs[0], logs[1])


class Played(TreeCase):
    def test_without_inputs_it_is_not_run(self):
        plan = root(WorkerPlan("a"))
        tree = played(plan, ())
        self.assertIsInstance(tree, Tree)
        self.assertIs(tree.plan, plan)
        self.assertEqual((tree.tick, tree.entries_count, tree.next_tick), (0, 2, 0))

    def test_to_the_end_of_the_tick_of_the_last_one(self):
        plan = root(WorkerPlan("a"), WorkerPlan("b", opening=1), most=9)
        tree = played(plan, ((3, "fail", ("a", "failed")),))
        self.assertEqual((tree.tick, tree.state_of("a"), tree.number_of("a"), tree.is_quiet), (3, "running", 4, True))
        tree = played(plan, ((3, "fail", ("b", "failed")), (3, "fail", ("a", "failed"))))
        self.assertEqual((tree.tick, tree.state_of("a"), tree.state_of("b"), tree.next_tick),
                         (3, "ended", "opening", 4))
        self.assertEqual(played(inputs=(), plan=plan).entries_count, 2)

    def test_at_the_first_tick_and_at_the_last_one(self):
        plan = root(WorkerPlan("a"), most=9)
        tree = played(plan, ((0, "fail", ("a", "failed")), (LARGEST, "send", ("a", "go", 1))))
        self.assertEqual((tree.tick, tree.starts_of("a"), counts(tree)), (LARGEST, 2, (1, 0, 0, 0)))

    def test_the_inputs_of_trees_by_chance(self):
        # 16: the same inputs make the same log, however often the tree was run, and whatever was refused.
        kinds = {}
        for tree in trees(150):
            told_inputs = inputs(tree)
            other = played(tree.plan, told_inputs)
            self.assertEqual(inputs(other), told_inputs)
            if not told_inputs:
                continue
            self.assertEqual(other.tick, told_inputs[-1][0])
            other.run(tree.tick)
            tree.run(tree.tick)
            self.assertEqual(log_of(other), log_of(tree))
            self.assertEqual((other.running, other.next_tick, counts(other)),
                             (tree.running, tree.next_tick, counts(tree)))
            for _, method, _ in told_inputs:
                kinds[method] = kinds.get(method, 0) + 1
        self.assertEqual(sorted(kinds), sorted(METHODS))
        self.assertGreaterEqual(min(kinds.values()), 20)

    def test_each_kind_of_input(self):
        plan = root(worker("a", row("go", ("reply", 3))), SupervisorPlan("s"), most=9)
        items = ((1, "add", ("s", WorkerPlan("x"))), (1, "ask", ("a", "go", 2)), (2, "fail", ("x", "crash")),
                 (2, "send", ("x", "go", -1)), (4, "take_out", ("x",)), (5, "stop", ()))
        tree = played(plan, items)
        self.assertEqual(inputs(tree), items)
        self.assertEqual((answer_of(tree, 1), tree.is_over, "x" in tree), (3, True, False))
        self.assertEqual(lines_with(tree, "added", "restart", "removed"),
                         ["1 added 3 x", "2 restart 3 x", "4 removed 3 x"])

    def test_bad_roots(self):
        for value in ALL_KINDS + (WorkerPlan("a"), [root()]):
            self.check_raises(BadRoot("plan"), played, value, ())
            self.check_raises(BadRoot("plan"), played, value, None)
        for plan, rule in ((root(WorkerPlan("root")), "names"), (plan_of(61), "size"), (chain_of(7), "levels"),
                           (root(SupervisorPlan("s", SupervisorPlan("t", most=10), most=9), most=9), "product")):
            self.check_raises(BadRoot(rule), played, plan, ((1, "stop", ()), 2))

    def test_no_tuple(self):
        for value in NO_TUPLES + ([(1, "stop", ())],):
            self.check_raises(BadInput(None), played, root(), value)

    def check_bad(self, *items, index=0):
        """The item with this index is told for these inputs, whatever stands behind them."""
        for behind in ((), (None,), ((5, "stop", ()),)):
            self.check_raises(BadInput(index), played, root(WorkerPlan("a"), most=9), items + behind)

    def test_what_is_no_triple(self):
        for value in ALL_KINDS:
            self.check_bad(value)
        good = (1, "stop", ())
        for value in ((), (1,), (1, "stop"), good + ((),), list(good), (good,), ("stop", 1, ()), (1, (), "stop")):
            self.check_bad(value)
            self.check_bad((0, "fail", ("a", "failed")), value, index=1)

    def test_ticks(self):
        for value in NO_INTEGERS + (-1, LARGEST + 1, 10 ** 30, "1", (1,)):
            self.check_bad((value, "stop", ()))
            self.check_bad((value, "fail", ("a", "failed")))

    def test_methods(self):
        for value in ALL_KINDS + ("start", "run", "stops", "twin", "run_until_quiet", "plan_of", "tick", "Stop"):
            for arguments in ((), ("a",), (5,), ("a", "failed"), ("a", "go", 0)):
                self.check_bad((1, value, arguments))

    def test_arguments(self):
        for value in NO_TUPLES:
            for method in METHODS:
                self.check_bad((1, method, value))

    def test_arguments_of_a_wrong_number(self):
        # All arguments stand there, those that have a default too.
        right = {"add": ("root", WorkerPlan("x")), "ask": ("a", "go", 1), "fail": ("a", "failed"), "stop": (),
                 "send": ("a", "go", 1), "take_out": ("a",)}
        for method, arguments in right.items():
            self.assertEqual(played(root(WorkerPlan("a")), ((1, method, arguments),)).tick, 1)
            for less in range(len(arguments)):
                self.check_bad((1, method, arguments[:less]))
            self.check_bad((1, method, arguments + (1,)))
            self.check_bad((1, method, arguments + ("a",)))
            self.check_bad((1, method, list(arguments)))

    def test_arguments_of_a_wrong_kind(self):
        for value in NO_STRINGS + (WorkerPlan("a"),):
            self.check_bad((1, "take_out", (value,)))
            self.check_bad((1, "fail", (value, "failed")))
            self.check_bad((1, "fail", ("a", value)))
            self.check_bad((1, "add", (value, WorkerPlan("x"))))
            for method in ("send", "ask"):
                self.check_bad((1, method, (value, "go", 1)))
                self.check_bad((1, method, ("a", value, 1)))
        for value in ALL_KINDS:
            self.check_bad((1, "add", ("root", value)))
        for value in NO_INTEGERS + (LARGEST + 1, -LARGEST - 1):
            self.check_bad((1, "send", ("a", "go", value)))
            self.check_bad((1, "ask", ("a", "go", value)))

    def test_refused_inputs(self):
        for method, arguments in (("fail", ("root", "failed")), ("fail", ("no", "failed")), ("fail", ("a", "killed")),
                                  ("take_out", ("no",)), ("add", ("a", WorkerPlan("x"))), ("add", ("root", None)),
                                  ("send", ("a", "answer", 0)), ("ask", ("own", "go", 0))):
            self.check_bad((1, method, arguments))
            self.check_bad((0, "send", ("a", "go", 0)), (1, "stop", ()), (1, method, arguments), index=2)
        self.check_bad((1, "stop", ()), (2, "send", ("a", "go", 0)), index=1)
        plan = root(WorkerPlan("a", opening=3))
        self.check_raises(BadInput(0), played, plan, ((2, "fail", ("a", "failed")),))
        self.assertEqual(played(plan, ((3, "fail", ("a", "failed")),)).starts_of("a"), 2)

    def test_ticks_that_go_back(self):
        self.check_bad((5, "fail", ("a", "failed")), (4, "fail", ("a", "failed")), index=1)
        self.check_bad((5, "fail", ("a", "failed")), (5, "fail", ("a", "failed")), (0, "stop", ()), index=2)

    def test_the_first_one_is_told(self):
        self.check_bad((1, "fail", ("no", "failed")), (0, "stop", ()), 7)
        self.check_bad((3, "send", ("a", "go", 0)), (2, "no", 7), (1, "fail", ("no", "failed")), index=1)
        good = (3, "send", ("a", "go", 0))
        self.check_bad(good, good, (3, "fail", ("no", "no")), None, index=2)


if __name__ == "__main__":
    unittest.main()
