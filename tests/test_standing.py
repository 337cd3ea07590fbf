"""watchtree.logs: how many entries of a log can stand (15.4)."""

import unittest

from tests.histories import history_by_chance, root_by_chance, scripted_root, seeded
from tests.samples import ALL_KINDS, NO_INTEGERS, NO_TUPLES, NO_WORDS, chain_of, plan_of
from tests.telling import TreeCase, log_of, ran, root, row, worker
from watchtree.errors import BadEntry, BadInput, BadRoot
from watchtree.logs import entries, played, standing
from watchtree.plans import SupervisorPlan, WorkerPlan
from watchtree.trees import Tree

LARGEST = 10 ** 12


def exact(value):
    """A value with the names of all kinds in it, so that values of different kinds are never equal."""
    if isinstance(value, tuple):
        return ("tuple",) + tuple(exact(part) for part in value)
    return (type(value).__name__, value)


def can_stand(plan, beginning):
    """Whether a beginning of a log can stand: the inputs in it make this log."""
    if not beginning:
        return True
    told = [(entry[1],) + entry[4] for entry in beginning[1:] if entry[3] == "input"]
    try:
        tree = played(plan, tuple(told))
    except BadInput:
        return False
    tree.run(max(tree.tick, max(entry[1] for entry in beginning)))
    return exact(tuple(entries(tree))[:len(beginning)]) == exact(beginning)


def changed_items(entry):
    """Entries that differ from this one in one item; all are tuples of the right kinds."""
    number, tick, cause, word, data = entry
    changes = [(number + 1, tick, cause, word, data), (number - 1, tick, cause, word, data),
               (number, tick + 1, cause, word, data), (number, max(0, tick - 1), cause, word, data),
               (number, tick, cause + 1, word, data), (number, tick, cause - 1, word, data),
               (number, tick, cause, "input", data), (number, tick, cause, "idle", data),
               (number, tick, cause, word, ()), (number, tick, cause, word, data + (1,)),
               (number, tick, cause, word, data[:-1]), (number, tick, cause, word, (data,))]
    for at, item in enumerate(data):
        for other in (None, True, 1, "a", ("a", "failed"), [item]):
            changes.append((number, tick, cause, word, data[:at] + (other,) + data[at + 1:]))
        if isinstance(item, int) and not isinstance(item, bool):
            changes.append((number, tick, cause, word, data[:at] + (item + 1,) + data[at + 1:]))
    return [other for other in changes if exact(other) != exact(entry)]


def sample():
    """A tree with a history of each kind of input, links, timers, questions, deadlines and give-ups."""
    rows = (row("start", ("link", "b"), ("monitor", "b"), ("later", 3, "x", 1), ("ask", "b", "q", 1)),
            row("down", ("note", "seen")), row("x", ("trap", True), ("mode", "second")))
    plan = root(WorkerPlan("b", closing=3, deadline=1, script=(row("q", ("reply", ("plus", 2))),)), worker("a", *rows),
                SupervisorPlan("s", WorkerPlan("c", opening=1), most=0), most=9, strategy="rest")
    tree = ran(plan, 2)
    tree.send("a", "x", -3)
    tree.ask("b", "q")
    tree.run(6)
    tree.fail("b", "crash")
    tree.add("s", WorkerPlan("e", script=(row("start", ("trap", False)),)))
    tree.run(9)
    tree.fail("c")
    tree.run(12)
    tree.take_out("a")
    tree.run(14)
    tree.stop()
    tree.run(20)
    return tree


class WholeLogs(TreeCase):
    def test_trees_by_chance_and_their_beginnings(self):
        for seed in range(90):
            chance = seeded(seed)
            tree = Tree(scripted_root(chance) if seed % 3 else root_by_chance(chance))
            history_by_chance(chance, tree, 30)
            log = tuple(entries(tree))
            self.assertEqual(standing(tree.plan, log), len(log))
            for _ in range(3):
                many = chance.randint(0, len(log))
                self.assertEqual(standing(tree.plan, log[:many]), many)

    def test_each_beginning(self):
        log = tuple(entries(sample()))
        for many in range(len(log) + 1):
            self.assertEqual(standing(sample().plan, log[:many]), many)
        self.assertEqual(standing(log=log, plan=sample().plan), len(log))

    def test_what_has_not_happened_yet(self):
        # A beginning can be longer than the log of the tree that was run: the tree would go on so.
        tree = ran(root(WorkerPlan("a", opening=9)), 3)
        log = tuple(entries(tree))
        tree.run(20)
        longer = tuple(entries(tree))
        self.assertGreater(len(longer), len(log))
        self.assertEqual(standing(tree.plan, longer), len(longer))

    def test_a_log_of_another_plan(self):
        log = tuple(entries(ran(root(WorkerPlan("a"), WorkerPlan("b")), 3)))
        self.assertEqual(standing(root(WorkerPlan("a"), WorkerPlan("c")), log), 4)
        self.assertEqual(standing(root(WorkerPlan("a")), log), 4)
        self.assertEqual(standing(SupervisorPlan("top", WorkerPlan("a")), log), 1)

    def test_the_empty_log(self):
        self.assertEqual(standing(root(), ()), 0)

    def test_the_start(self):
        start = (1, 0, 0, "input", ("start", ()))
        self.assertEqual(standing(root(), (start,)), 1)
        for other in changed_items(start) + [(1, 0, 0, "input", ("stop", ()))]:
            self.assertEqual(standing(root(), (other, other)), 0)
        self.assertEqual(standing(root(), (start, start)), 1)
        log = tuple(entries(ran(root(WorkerPlan("a")), 3)))
        self.assertEqual(standing(root(WorkerPlan("a")), log + ((6, 3, 0, "input", ("start", ())),)), 5)


class ChangedLogs(TreeCase):
    def check(self, plan, log, many):
        """So many entries can stand, and not one more."""
        self.assertEqual(standing(plan, log), many)
        self.assertTrue(can_stand(plan, log[:many]))
        if many < len(log):
            self.assertFalse(can_stand(plan, log[:many + 1]))

    def test_one_item_of_one_entry(self):
        tree = sample()
        log = tuple(entries(tree))
        longer = 0
        for at, entry in enumerate(log):
            for other in changed_items(entry):
                found = standing(tree.plan, log[:at] + (other,) + log[at + 1:])
                self.assertGreaterEqual(found, at)
                if found > at:
                    # What is changed can be another input, that makes other entries.
                    self.assertEqual((entry[3], other[3]), ("input", "input"))
                    self.check(tree.plan, log[:at] + (other,) + log[at + 1:], found)
                    longer += 1
        self.assertGreater(longer, 0)

    def test_an_entry_that_is_left_out_put_twice_or_put_in(self):
        tree = sample()
        log = tuple(entries(tree))
        for at, entry in enumerate(log):
            left = log[:at] + log[at + 1:]
            self.check(tree.plan, left, at)
            self.check(tree.plan, log[:at + 1] + log[at:], at + 1)
            self.check(tree.plan, log[:at] + ((entry[0], entry[1], entry[2], "noted", (2, "more")),) + log[at:], at)

    def test_entries_that_are_left_out_with_the_numbers_mended(self):
        tree = sample()
        log = tuple(entries(tree))
        for at in range(len(log) - 1):
            behind = tuple((number - 1, tick, cause if cause <= at else cause - 1, word, data)
                           for number, tick, cause, word, data in log[at + 1:])
            self.assertEqual(standing(tree.plan, log[:at] + behind) >= at, True)
            self.check(tree.plan, log[:at] + behind, standing(tree.plan, log[:at] + behind))

    def test_logs_of_trees_by_chance(self):
        changes = 0
        for seed in range(60):
            chance = seeded(seed)
            tree = Tree(scripted_root(chance) if seed % 3 else root_by_chance(chance))
            history_by_chance(chance, tree, 20)
            log = tuple(entries(tree))
            for _ in range(6):
                at = chance.randrange(len(log))
                other = chance.choice(changed_items(log[at]))
                other_log = log[:at] + (other,) + log[at + 1:]
                self.check(tree.plan, other_log, standing(tree.plan, other_log))
                changes += 1
        self.assertEqual(changes, 360)

    def test_what_is_equal_but_of_another_kind(self):
        tree = sample()
        log = tuple(entries(tree))
        trap = next(at for at, entry in enumerate(log) if entry[3] == "trap")
        self.assertIs(log[trap][4][1], True)
        number, tick, cause, word, data = log[trap]
        self.assertEqual(standing(tree.plan, log[:trap] + ((number, tick, cause, word, (data[0], 1)),)), trap)
        number, tick, cause, word, data = log[1]
        self.assertEqual(data, (True, "root", False))
        self.assertEqual(standing(tree.plan, log[:1] + ((number, tick, cause, word, (True, "root", 0)),)), 1)
        self.assertEqual(standing(tree.plan, log[:1] + ((number, tick, cause, word, (1, "root", False)),)), 1)

    def test_values_of_all_kinds_in_the_data(self):
        tree = sample()
        log = tuple(entries(tree))
        for at in (0, 1, 4, 9, [entry[3] for entry in log].index("trap"), len(log) - 1):
            number, tick, cause, word, data = log[at]
            for value in ALL_KINDS + (WorkerPlan("a"),):
                behind = log[at + 1:]
                for other in ((value,), (data[0], value), data + (value,), (value,) + data):
                    if exact(other) != exact(data):
                        self.assertEqual(standing(tree.plan, log[:at] + ((number, tick, cause, word, other),) + behind),
                                         at)


class InputsOfLogs(TreeCase):
    def log(self, tree):
        return tuple(entries(tree))

    def test_an_input_behind_the_last_step(self):
        plan = root(WorkerPlan("a"), WorkerPlan("b", opening=4), most=9)
        log = self.log(ran(plan, 0))
        self.assertEqual((len(log), log[-1][3]), (5, "started"))
        # b runs at the tick 4, with the root: until the tick 3 an input can come ahead of this.
        for tick, many in ((0, 6), (3, 6), (4, 5), (5, 5), (LARGEST, 5)):
            self.assertEqual(standing(plan, log + ((6, tick, 0, "input", ("fail", ("a", "failed"))),)), many)
        log = self.log(ran(plan, 4))
        self.assertEqual(len(log), 7)
        for tick, many in ((3, 7), (4, 8), (5, 8), (LARGEST, 8)):
            self.assertEqual(standing(plan, log + ((8, tick, 0, "input", ("fail", ("a", "failed"))),)), many)
        self.assertEqual(standing(plan, log[:6] + ((7, 4, 0, "input", ("fail", ("a", "failed"))),)), 6)

    def test_an_input_amid_the_entries_of_a_step(self):
        plan = root(WorkerPlan("a"), most=0)
        tree = ran(plan, 1)
        tree.fail("a")
        tree.run(1)
        log = self.log(tree)
        at = [entry[3] for entry in log].index("restart")
        # The supervisor is closing in the same step.
        self.assertEqual((log[at + 1][3], log[at + 1][2]), ("closing", log[at][0]))
        put_in = (log[at][0] + 1, 1, 0, "input", ("send", ("a", "go", 0)))
        self.assertEqual(standing(plan, log[:at + 1] + (put_in,)), at + 1)

    def test_steps_that_do_nothing_are_no_hindrance(self):
        # The step of the cancelled timer is left at the tick 9.
        plan = root(worker("a", row("start", ("later", 9, "x", 0)), row("go", ("cancel", "x"))), most=9)
        tree = ran(plan, 2)
        tree.send("a", "go")
        tree.run(5)
        log = self.log(tree)
        self.assertEqual(tree.next_tick, 8)
        number = len(log) + 1
        for tick in (5, 7, 8, 9, LARGEST):
            self.assertEqual(standing(plan, log + ((number, tick, 0, "input", ("take_out", ("a",))),)), number)

    def test_a_deadline_is_a_step_too(self):
        plan = root(WorkerPlan("a", closing=9, deadline=3), WorkerPlan("b"))
        tree = ran(plan, 1)
        tree.take_out("a")
        tree.run(2)
        log = self.log(tree)
        number = len(log) + 1
        for tick, many in ((2, number), (3, number), (4, number - 1), (5, number - 1)):
            self.assertEqual(standing(plan, log + ((number, tick, 0, "input", ("fail", ("b", "failed"))),)), many)

    def test_several_inputs_in_a_tick(self):
        plan = root(WorkerPlan("a"), WorkerPlan("b"), most=9)
        tree = ran(plan, 3)
        tree.fail("a")
        tree.send("b", "go", 7)
        log = self.log(tree)
        self.assertEqual(standing(plan, log), len(log))
        # What the first one makes comes ahead of the second one.
        at = [entry[3] for entry in log].index("restart")
        put_in = (at + 1, 3, 0, "input", ("send", ("b", "go", 7)))
        self.assertEqual(standing(plan, log[:at] + (put_in,)), at)

    def test_inputs_that_would_be_refused(self):
        plan = root(WorkerPlan("a"), WorkerPlan("b", opening=9, restart="transient"), most=9)
        log = self.log(ran(plan, 1))
        for method, arguments in (("fail", ("a", "failed")), ("send", ("a", "go", 1)), ("ask", ("b", "go", 0)),
                                  ("stop", ()), ("take_out", ("b",)), ("add", ("root", WorkerPlan("x")))):
            self.assertEqual(standing(plan, log + ((6, 1, 0, "input", (method, arguments)),)), 6)
        for method, arguments in (("fail", ("b", "failed")), ("fail", ("root", "failed")), ("fail", ("a", "killed")),
                                  ("fail", ("no", "failed")), ("fail", ("a",)), ("fail", ["a", "failed"]),
                                  ("send", ("a", "told", 1)), ("send", ("a", "go")), ("send", ("a", "go", True)),
                                  ("ask", ("x", "go", 0)), ("ask", ("a", "go", None)), ("ask", (["a"], "go", 1)),
                                  ("stop", (1,)), ("stop", []), ("take_out", ("x",)), ("take_out", ()),
                                  ("add", ("a", WorkerPlan("x"))), ("add", ("root", 1)), ("add", ("root",)),
                                  ("start", ()), ("run", (5,)), ("twin", ()), (1, ()), (["stop"], ()), (None, None)):
            self.assertEqual(standing(plan, log + ((6, 1, 0, "input", (method, arguments)),)), 5)
        for data in ((), ("stop",), ("stop", (), ()), (("stop", ()),)):
            self.assertEqual(standing(plan, log + ((6, 1, 0, "input", data),)), 5)

    def test_an_input_of_a_tree_that_is_over(self):
        plan = root(WorkerPlan("a"))
        tree = ran(plan, 1)
        tree.send("a", "go")
        tree.stop()
        tree.run(1)
        self.assertTrue(tree.is_over)
        log = self.log(tree)
        number = len(log) + 1
        self.assertEqual(standing(plan, log + ((number, 1, 0, "input", ("stop", ())),)), number - 1)
        # The message still arrives.
        tree.run(2)
        self.assertEqual(standing(plan, self.log(tree)), number)

    def test_entries_of_an_input_itself(self):
        plan = root(WorkerPlan("a"), most=9)
        log = self.log(ran(plan, 1))
        put_in = (6, 1, 0, "input", ("fail", ("a", "failed")))
        for behind, many in (((7, 1, 6, "ended", (2, "failed")), 7), ((7, 1, 6, "ended", (2, "crash")), 6),
                             ((7, 2, 6, "ended", (2, "failed")), 6), ((7, 1, 0, "input", ("stop", ())), 6)):
            self.assertEqual(standing(plan, log + (put_in, behind)), many)
        for other in ((7, 1, 0, "input", put_in[4]), (6, 1, 1, "input", put_in[4]), (6, 1, -1, "input", put_in[4])):
            self.assertEqual(standing(plan, log + (other,)), 5)

    def test_behind_the_last_tick_nothing_is_made(self):
        plan = root(worker("a", row("start", ("later", 5, "x", 0))), most=9)
        tree = ran(plan, LARGEST)
        tree.send("a", "x")
        log = self.log(tree)
        number = len(log)
        self.assertEqual(standing(plan, log), number)
        self.assertEqual(standing(plan, log + ((number + 1, LARGEST, number - 1, "arrived", (2, 2)),)), number)

    def test_an_input_long_behind_what_a_restless_tree_would_make(self):
        # The tree has a step at each tick: that it is not at rest is seen by the first one.
        plan = root(worker("a", row("start", ("later", 1, "x", 0)), row("x", ("later", 1, "x", 0))), most=9)
        log = self.log(ran(plan, 5))
        number = len(log) + 1
        self.assertEqual(standing(plan, log + ((number, 5, 0, "input", ("stop", ())),)), number)
        for tick in (6, LARGEST):
            self.assertEqual(standing(plan, log + ((number, tick, 0, "input", ("stop", ())),)), number - 1)

    def test_an_added_plan_stands_as_it_is(self):
        plan = root()
        added = WorkerPlan("x", script=(row("go", ("add", "root", WorkerPlan("y"))),))
        tree = ran(plan, 1)
        tree.add("root", added)
        tree.run(1)
        tree.send("x", "go")
        tree.run(5)
        log = self.log(tree)
        self.assertEqual(standing(plan, log), len(log))


class WrongLogs(TreeCase):
    def test_bad_roots(self):
        for value in ALL_KINDS + (WorkerPlan("a"), [root()]):
            self.check_raises(BadRoot("plan"), standing, value, ())
            self.check_raises(BadRoot("plan"), standing, value, None)
        for plan, rule in ((root(WorkerPlan("root")), "names"), (plan_of(61), "size"), (chain_of(7), "levels"),
                           (root(SupervisorPlan("s", SupervisorPlan("t", most=10), most=9), most=9), "product")):
            self.check_raises(BadRoot(rule), standing, plan, (1,))

    def test_no_tuple(self):
        for value in NO_TUPLES + ([(1, 0, 0, "input", ("start", ()))],):
            self.check_raises(BadEntry(None), standing, root(), value)

    def test_items_that_are_no_entries(self):
        good = (1, 0, 0, "input", ("start", ()))
        wrong = list(ALL_KINDS) + [good[:4], good + (1,), list(good), (good,)]
        for value in NO_INTEGERS:
            wrong.extend([(value,) + good[1:], good[:1] + (value,) + good[2:], good[:2] + (value,) + good[3:]])
        wrong.extend([(1, -1, 0, "input", ()), (1, LARGEST + 1, 0, "input", ())])
        for value in NO_WORDS:
            wrong.append(good[:3] + (value,) + good[4:])
        for value in NO_TUPLES:
            wrong.append(good[:4] + (value,))
        for value in wrong:
            self.check_raises(BadEntry(0), standing, root(), (value,))
            self.check_raises(BadEntry(1), standing, root(), (good, value, value))
            # Also behind one that cannot stand.
            self.check_raises(BadEntry(2), standing, root(), (good, good, value, None))

    def test_entries_with_any_numbers_words_and_data(self):
        for entry in ((-5, 0, 0, "input", ()), (10 ** 30, LARGEST, -10 ** 30, "a", ((), [], None)),
                      (0, 0, 0, "zzzzzzzzzzzzzzzzzzzz", (object(),))):
            self.assertEqual(standing(root(), (entry,)), 0)
            log = tuple(log_of(ran(root(), 1)))
            self.assertEqual(standing(root(), log + (entry, entry)), 3)


if __name__ == "__main__":
    unittest.main()
