"""watchtree.snapshots: snapshots of trees, and trees that are restored from them (16)."""

import unittest
from ast import literal_eval

from tests.histories import do, history_by_chance, input_by_chance, root_by_chance, scripted_root, seeded
from tests.telling import TreeCase, lines_with, log_of, ran, root, row, worker
from watchtree.errors import NoEntry, NoMessage, NoPlace
from watchtree.falls import reach
from watchtree.logs import chain, effects, entries, inputs, played, standing
from watchtree.messages import (answer_of, box, counts, does_trap, hangs_on, is_busy, links_of, mode_of, question_of,
                                rings, status_of, timers_of, watched_by)
from watchtree.plans import SupervisorPlan, WorkerPlan, names
from watchtree.snapshots import restored, snapshot
from watchtree.times import shutdown_told
from watchtree.trees import Tree

OF_PLACES = ("state_of", "number_of", "reason_of", "starts_of", "listed", "budget", "noted")
OF_WORKERS = (box, mode_of, is_busy, does_trap, links_of, watched_by, timers_of)
PLACES = ("extra", "more", "again", "extra_0", "extra_1", "no")


def kinds_in(value):
    """The kinds of all values in a snapshot."""
    if type(value) is tuple:
        return {tuple}.union(*[kinds_in(part) for part in value])
    return {type(value)}


def state(tree):
    """All that a tree tells of what it is now."""
    told = [(tree.tick, tree.is_over, tree.is_quiet, tree.next_tick, tree.running, tree.entries_count, len(tree))]
    told.append((rings(tree), counts(tree)[:2]))
    for place in names(tree.plan) + PLACES:
        told.append((place, place in tree, do(tree, "plan_of", (place,)) if place in tree else None))
        told.extend(do(tree, query, (place,)) for query in OF_PLACES)
        if place in tree:
            told.append(hangs_on(tree, place))
            if isinstance(tree.plan_of(place), WorkerPlan):
                told.extend(query(tree, place) for query in OF_WORKERS)
                told.append(reach(tree, place) if tree.is_quiet and tree.state_of(place) == "running" else None)
    told.append(shutdown_told(tree) if tree.is_quiet and not any(links(tree)) else None)
    return told


def links(tree):
    """The links and monitors of all workers that run."""
    workers = [place for place in tree.running if isinstance(tree.plan_of(place), WorkerPlan)]
    return [links_of(tree, place) + watched_by(tree, place) for place in workers]


def moments(seeds, many=16):
    """Trees by chance at each moment of a history: the source of chance, the tree, and what is done next."""
    for seed in seeds:
        chance = seeded(seed)
        tree = Tree(scripted_root(chance) if seed % 3 else root_by_chance(chance))
        for _ in range(many):
            tick = tree.tick + chance.choice((0, 1, 1, 2, 5))
            yield chance, tree, ("run", (tick,)) if chance.random() < 0.6 else input_by_chance(chance, tree)


class Snapshots(TreeCase):
    def test_what_they_are_made_of(self):
        found = set()
        for _, tree, (method, arguments) in moments(range(60)):
            saved = snapshot(tree)
            self.assertIs(type(saved), tuple)
            found |= kinds_in(saved)
            # A value of this kind is the same when it was written down and read.
            self.assertEqual(literal_eval(repr(saved)), saved)
            do(tree, method, arguments)
        self.assertEqual(found, {tuple, str, int, bool, type(None)})

    def test_as_long_as_a_tree_does_not_change_they_are_equal(self):
        for _, tree, (method, arguments) in moments(range(40)):
            saved = snapshot(tree)
            self.assertEqual(snapshot(tree), saved)
            state(tree)
            list(entries(tree))
            inputs(tree)
            restored(tree.plan, saved).run(tree.tick + 20)
            tree.twin().run(tree.tick + 20)
            self.assertEqual(snapshot(tree=tree), saved)
            do(tree, method, arguments)

    def test_refused_inputs_that_find_the_tick_at_its_end_change_nothing(self):
        tree = ran(root(WorkerPlan("a"), SupervisorPlan("s")), 3)
        saved = snapshot(tree)
        for method, arguments in (("fail", ("no",)), ("fail", ("s",)), ("add", ("a", 1)), ("take_out", ("x",)),
                                  ("send", ("a", "told")), ("run", (2,)), ("run", (3,)), ("run_until_quiet", (3,))):
            do(tree, method, arguments)
            self.assertEqual(snapshot(tree), saved)

    def test_trees_with_the_same_history_have_equal_ones(self):
        for seed in range(60):
            chance = seeded(seed)
            plan = scripted_root(chance) if seed % 3 else root_by_chance(chance)
            tree = Tree(plan)
            done = history_by_chance(chance, tree, 30)
            other = Tree(plan)
            for method, arguments in done:
                do(other, method, arguments)
            self.assertEqual(snapshot(other), snapshot(tree))
            self.assertEqual(snapshot(tree.twin()), snapshot(tree))

    def test_trees_that_do_other_things_have_other_ones(self):
        plan = root(worker("a", row("start", ("later", 9, "x", 1))), WorkerPlan("b", closing=3, deadline=9), most=9)
        tree = ran(plan, 2)
        found = [snapshot(tree)]
        for method, arguments in (("run", (3,)), ("send", ("a", "go")), ("send", ("a", "go", 1)),
                                  ("ask", ("a", "go", 1)), ("fail", ("a",)), ("fail", ("b",)),
                                  ("add", ("root", WorkerPlan("x"))), ("add", ("root", WorkerPlan("x", opening=1))),
                                  ("take_out", ("b",)), ("stop", ())):
            other = tree.twin()
            do(other, method, arguments)
            found.append(snapshot(other))
        self.assertEqual(len(set(found)), len(found))
        self.assertEqual(snapshot(tree), found[0])

    def test_they_do_not_hold_what_is_past(self):
        # However long a tree has run, its snapshot does not grow by what is over.
        tree = ran(root(worker("a", row("q", ("reply", 1))), most=1, span=1), 1)
        sizes = []
        for _ in range(30):
            tree.ask("a", "q")
            tree.send("a", "q")
            tree.run(tree.tick + 9)
            sizes.append(len(repr(snapshot(tree))))
        self.assertLess(max(sizes) - min(sizes), 30)


class Restored(TreeCase):
    def test_it_goes_on_as_the_old_one_does(self):
        # Each one that was restored at some moment is run on beside the old tree.
        for seed in range(50):
            beside = []
            for _, tree, (method, arguments) in moments([seed]):
                beside.append((tree.entries_count, restored(tree.plan, snapshot(tree))))
                answer = do(tree, method, arguments)
                log = log_of(tree)
                for since, other in beside:
                    self.assertEqual(do(other, method, arguments), answer)
                    self.assertEqual(list(entries(other)), log[since:])
            tree.run(tree.tick + 30)
            for since, other in beside:
                other.run(tree.tick)
                self.assertEqual(list(entries(other)), log_of(tree)[since:])
                self.assertEqual(snapshot(other), snapshot(tree))
                self.assertEqual(state(other), state(tree))

    def test_it_is_what_the_old_one_is(self):
        for _, tree, (method, arguments) in moments(range(60)):
            saved = snapshot(tree)
            other = restored(tree.plan, saved)
            self.assertIsInstance(other, Tree)
            self.assertIs(other.plan, tree.plan)
            self.assertEqual(snapshot(other), saved)
            self.assertEqual(state(other), state(tree))
            do(tree, method, arguments)

    def test_of_restored_trees_and_twins(self):
        for _, tree, (method, arguments) in moments(range(30)):
            other = restored(tree.plan, snapshot(tree))
            do(tree, method, arguments)
            since = other.entries_count
            do(other, method, arguments)
            again = restored(other.plan, snapshot(other))
            twin = other.twin()
            later = tree.entries_count
            for one in (tree, other, again, twin):
                one.run(one.tick + 4)
            self.assertEqual(list(entries(twin)), list(entries(other)))
            self.assertEqual(list(entries(other)), log_of(tree)[since:])
            self.assertEqual(list(entries(again)), log_of(tree)[later:])
            self.assertEqual([state(one) for one in (other, again, twin)], [state(tree)] * 3)
            self.assertEqual([snapshot(one) for one in (other, again, twin)], [snapshot(tree)] * 3)

    def test_by_name_and_with_an_equal_plan(self):
        plan = root(worker("a", row("start", ("later", 3, "x", 1)), row("x", ("note", "seen"))), most=9)
        tree = ran(plan, 1)
        again = root(worker("a", row("start", ("later", 3, "x", 1)), row("x", ("note", "seen"))), most=9)
        other = restored(saved=snapshot(tree), plan=again)
        self.assertIs(other.plan, again)
        self.assertEqual((other.run(9), tree.run(9)), (5, 5))
        self.assertEqual(log_of(other), log_of(tree)[-5:])

    def test_both_go_on_by_themselves(self):
        tree = ran(root(WorkerPlan("a"), WorkerPlan("b"), most=9), 1)
        tree.send("a", "go")
        saved = snapshot(tree)
        other = restored(tree.plan, saved)
        other.fail("a")
        other.stop()
        other.run(9)
        self.assertEqual((snapshot(tree), tree.running, other.is_over), (saved, ("root", "a", "b"), True))
        self.assertEqual(snapshot(restored(tree.plan, saved)), saved)

    def test_a_new_tree_and_one_that_is_over(self):
        plan = root(WorkerPlan("a", opening=1))
        tree = Tree(plan)
        other = restored(plan, snapshot(tree))
        self.assertEqual((list(entries(other)), other.entries_count, other.next_tick), ([], 2, 0))
        self.assertEqual((other.run(9), tree.run(9)), (3, 3))
        tree.send("a", "go")
        tree.stop()
        tree.run(9)
        other = restored(plan, snapshot(tree))
        self.assertEqual((other.is_over, other.is_quiet, other.running, other.next_tick, other.reason_of("root")),
                         (True, False, (), 10, "shutdown"))
        self.assertEqual((other.run(10), counts(other)), (1, (0, 0, 0, 1)))


class Moments(TreeCase):
    """Snapshots amid what takes several steps."""

    def check(self, tree, *actions):
        """A tree that is restored now does the same as the old one by these actions; return both."""
        other = restored(tree.plan, snapshot(tree))
        since = tree.entries_count
        for method, arguments in actions + (("run", (tree.tick + 100,)),):
            self.assertEqual(do(other, method, arguments), do(tree, method, arguments))
        self.assertEqual(list(entries(other)), log_of(tree)[since:])
        self.assertEqual(state(other), state(tree))
        self.assertGreater(tree.entries_count, since)
        return tree, other

    def test_amid_a_tick(self):
        tree = ran(root(WorkerPlan("a"), WorkerPlan("b"), strategy="all", most=9), 3)
        tree.fail("a")
        self.assertEqual(tree.next_tick, 3)
        self.check(tree)
        tree.fail("b")
        self.check(tree, ("run", (tree.tick,)), ("fail", ("a",)))

    def test_deadlines(self):
        inner = SupervisorPlan("s", WorkerPlan("a", closing=9, deadline=4), WorkerPlan("b", closing=9), deadline=6)
        tree = ran(root(inner, WorkerPlan("c", closing=5, deadline=5)), 1)
        tree.stop()
        for tick in range(1, 9):
            tree.run(tick)
            self.check(tree.twin())
        tree, other = self.check(tree)
        self.assertEqual(lines_with(other, "ended"), ["12 ended 4 killed", "12 ended 3 killed", "12 ended 2 killed",
                                                     "12 ended 1 shutdown"])

    def test_several_deadlines_of_one_process(self):
        inner = SupervisorPlan("s", WorkerPlan("v", closing=50), WorkerPlan("w"), most=0, deadline=30)
        tree = ran(root(inner), 1)
        tree.take_out("s")
        tree.run(2)
        tree.stop()
        tree.run(3)
        self.assertEqual(tree.next_tick, 31)
        self.check(tree)

    def test_orders(self):
        # An opening, a mend, adds and removals behind it.
        plan = root(WorkerPlan("a", opening=2), WorkerPlan("b", opening=2, closing=3), strategy="all", most=9)
        tree = Tree(plan)
        tree.run(1)
        tree.add("root", WorkerPlan("x"))
        self.check(tree.twin())
        tree.run(9)
        tree.fail("a")
        tree.run(10)
        tree.add("root", SupervisorPlan("y", WorkerPlan("z", opening=1), most=2, deadline=4))
        tree.take_out("b")
        self.check(tree.twin())
        self.check(tree.twin(), ("stop", ()))
        tree, other = self.check(tree, ("run", (11,)), ("fail", ("a",)))
        self.assertEqual((other.running, other.plan_of("y")), (("root", "a", "x", "y", "z"), tree.plan_of("y")))

    def test_orders_of_deeds(self):
        # Both workers are told what becomes of their orders; a plan with a script that removes is on its way.
        extra = worker("x", row("start", ("remove", "b"), ("later", 2, "go", 1)), row("told", ("note", "done")))
        adds = worker("a", row("start", ("add", "root", extra), ("remove", "b")), row("told", ("note", "heard")))
        tree = Tree(root(adds, WorkerPlan("b", opening=3, closing=2)))
        for tick in range(8):
            tree.run(tick)
            self.check(tree.twin(), ("fail", ("a",)))
        self.assertEqual(lines_with(tree, "added", "removed", "noted"),
                         ["3 added 1 x", "4 noted 2 heard", "5 removed 1 b", "6 noted 2 heard", "6 noted 4 done"])

    def test_scripts_of_plans_that_are_to_be_added(self):
        inside = worker("y", row("start", ("trap", True), ("note", "up")), opening=1, closing=2, deadline=1, refused=1)
        extra = worker("x", row("start", ("add", "root", inside)), row("told", ("reply", ("plus", 1)), mode="second"),
                       restart="transient")
        tree = ran(root(), 1)
        tree.add("root", SupervisorPlan("s", extra, SupervisorPlan("t"), strategy="rest", restart="temporary", most=2,
                                        span=7, deadline=5))
        other = self.check(tree)[1]
        self.assertEqual((other.plan_of("x"), other.plan_of("y"), other.plan_of("s").children[1].name),
                         (extra, inside, "t"))

    def test_a_plan_that_will_not_be_added(self):
        plan = WorkerPlan("w")
        for at in range(19):
            plan = SupervisorPlan(f"x{at}", plan)
        tree = ran(root(WorkerPlan("a"), WorkerPlan("b", opening=9)), 1)
        tree.add("root", plan)
        other = self.check(tree)[1]
        self.assertEqual(lines_with(other, "refused"), ["9 refused 1 x18"])

    def test_places_that_were_added(self):
        tree = ran(root(SupervisorPlan("s"), most=9), 1)
        tree.add("s", SupervisorPlan("x", WorkerPlan("y"), SupervisorPlan("z", most=2), most=3))
        tree.run(2)
        tree.add("z", SupervisorPlan("u", WorkerPlan("v", closing=1)))
        tree.add("x", WorkerPlan("t", restart="temporary"))
        tree.run(4)
        tree.fail("v")
        tree.run(5)
        self.check(tree.twin(), ("fail", ("y",)), ("fail", ("v",)), ("fail", ("t",)), ("add", ("u", WorkerPlan("w"))))
        self.check(tree.twin(), ("take_out", ("z",)), ("add", ("x", WorkerPlan("v"))))
        other = self.check(tree, ("take_out", ("x",)), ("run", (6,)), ("add", ("root", WorkerPlan("y"))))[1]
        self.assertEqual((other.running, other.listed("s")), (("root", "s", "y"), ()))

    def test_places_of_the_plan_that_were_removed(self):
        tree = ran(root(SupervisorPlan("s", WorkerPlan("a"), WorkerPlan("b"), most=0), WorkerPlan("c"), most=9), 1)
        tree.take_out("a")
        tree.run(2)
        other = restored(tree.plan, snapshot(tree))
        self.assertEqual((other.listed("s"), other.state_of("a"), other.starts_of("a")), (("b",), "ended", 1))
        self.check(tree, ("fail", ("b",)))
        self.assertEqual((tree.listed("s"), tree.starts_of("a")), (("a", "b"), 2))

    def test_starts_that_were_refused(self):
        tree = ran(root(WorkerPlan("a", refused=2, opening=1), most=9), 3)
        tree.fail("a")
        for tick in (3, 4, 5, 6):
            tree.run(tick)
            self.check(tree.twin(), ("stop", ()))
        self.assertEqual(tree.starts_of("a"), 4)

    def test_notes_and_budgets(self):
        tree = ran(root(WorkerPlan("a"), most=2, span=5), 1)
        for tick in (3, 6):
            tree.run(tick)
            tree.fail("a")
        tree.run(6)
        other = restored(tree.plan, snapshot(tree))
        self.assertEqual((other.noted("root"), other.budget("root")), ((3, 6), 0))
        self.check(tree.twin(), ("fail", ("a",)))
        self.check(tree.twin(), ("run", (8,)), ("fail", ("a",)))

    def test_timers(self):
        rows = (row("start", ("later", 5, "x", 1), ("later", 3, "y", 2), ("later", 5, "x", 3)),
                row("go", ("cancel", "x")), row("x", ("note", "x")), row("y", ("note", "y")))
        tree = ran(root(worker("a", *rows)), 1)
        other = restored(tree.plan, snapshot(tree))
        self.assertEqual(timers_of(other, "a"), ((3, "y", 2), (5, "x", 1), (5, "x", 3)))
        self.check(tree.twin())
        self.check(tree.twin(), ("send", ("a", "go")))
        tree.run(4)
        self.check(tree.twin(), ("send", ("a", "go")))

    def test_links_and_monitors(self):
        rows = (row("start", ("link", "b"), ("link", "c"), ("monitor", "s"), ("monitor", "c"), ("trap", True)),
                row("ended", ("note", "ended")), row("down", ("note", "down")))
        plan = root(WorkerPlan("b"), SupervisorPlan("s", WorkerPlan("c")), worker("a", *rows),
                    worker("d", row("start", ("link", "a"), ("monitor", "a"))), most=9)
        tree = ran(plan, 2)
        other = restored(plan, snapshot(tree))
        self.assertEqual((links_of(other, "a"), watched_by(other, "a"), does_trap(other, "a")),
                         ((2, 4, 6), (3, 4), True))
        for actions in ((("fail", ("a",)),), (("fail", ("b",)), ("fail", ("c",))), (("take_out", ("s",)),),
                        (("stop", ()),)):
            self.check(tree.twin(), *actions)

    def test_signals_on_their_way(self):
        plan = root(WorkerPlan("b"), worker("a", row("start", ("link", "b"), ("monitor", "b"))), most=9)
        tree = ran(plan, 2)
        tree.fail("b", "crash")
        other = self.check(tree)[1]
        self.assertEqual(lines_with(other, "signal"), ["2 signal 3 crash"])

    def test_modes_work_and_what_was_taken_last(self):
        # a has taken a question of b and answers later, to its sender, about what it was, with its value.
        rows = (row("q", ("later", 4, "go", 0), ("mode", "second"), work=3),
                row("go", ("reply", ("plus", 2)), mode="second"))
        plan = root(worker("a", *rows), worker("b", row("start", ("ask", "a", "q", 5)), row("answer", ("note", "got"))))
        tree = ran(plan, 2)
        self.assertEqual((mode_of(tree, "a"), is_busy(tree, "a"), question_of(tree, 1)), ("second", True, "open"))
        for tick in range(2, 9):
            tree.run(tick)
            self.check(tree.twin(), ("send", ("a", "go", 7)), ("fail", ("a",)))
        self.assertEqual(question_of(tree, 1), "answered")

    def test_senders_and_what_messages_are_about(self):
        rows = (row("hey", ("send", "sender", "hello", ("plus", 1))), row("down", ("monitor", "c"), ("mode", "second")),
                row("go", ("send", "about", "hello", ("plus", 0)), mode="second"))
        plan = root(WorkerPlan("c"), worker("a", row("start", ("monitor", "c")), *rows),
                    worker("b", row("start", ("send", "a", "hey", 3))), most=9)
        tree = Tree(plan)
        for tick in range(4):
            tree.run(tick)
            self.check(tree.twin(), ("fail", ("c",)), ("run", (tick + 2,)), ("send", ("a", "go", 4)))

    def test_messages_to_places_that_are_gone(self):
        rows = (row("go", ("ask", "x", "q", 5), ("send", "x", "hey", 1)), row("back", ("send", "about", "hey", 2)))
        tree = ran(root(worker("a", *rows)), 1)
        tree.add("root", WorkerPlan("x"))
        tree.run(2)
        tree.send("a", "go")
        tree.run(3)
        tree.take_out("x")
        tree.run(3)
        self.assertFalse("x" in tree)
        self.assertEqual(counts(tree)[0], 2)
        tree.add("root", WorkerPlan("x"))
        other = self.check(tree)[1]
        self.assertEqual((counts(other), lines_with(other, "returned", "arrived")),
                         ((0, 0, 1, 2), ["4 returned 2", "5 arrived 4 2"]))

    def test_at_the_last_tick(self):
        tree = ran(root(WorkerPlan("a"), most=9), 10 ** 12)
        tree.send("a", "go")
        tree.fail("a")
        other = restored(tree.plan, snapshot(tree))
        for one in (tree, other):
            one.run(10 ** 12)
        self.assertEqual((list(entries(other)), counts(other), other.next_tick),
                         (log_of(tree)[-3:], (1, 0, 0, 0), 10 ** 12 + 1))


class Older(TreeCase):
    """What a restored tree tells of what is older."""

    def sample(self):
        """A tree with messages of each status, and what is restored of it.

        1 waits, 2 is handled and was answered, 3 is handled and open, 4 was dropped and returned, 5 is handled and no
        question, 6 is on its way.
        """
        plan = root(worker("a", row("q", ("reply", 9)), row("hold"), row("go")), WorkerPlan("b"), most=9)
        tree = ran(plan, 1)
        for place, word in (("b", "x"), ("a", "q"), ("a", "hold"), ("root", "q")):
            (tree.send if word == "x" else tree.ask)(place, word)
            tree.run(tree.tick + 3)
        tree.send("a", "go")
        tree.run(tree.tick + 3)
        tree.ask("b", "x", 4)
        statuses = [status_of(tree, number) for number in range(1, 7)]
        self.assertEqual(statuses, ["waiting", "handled", "handled", "dropped", "handled", "sent"])
        return tree, restored(plan, snapshot(tree))

    def test_messages_that_are_not_final_and_open_questions(self):
        _, other = self.sample()
        for number, status in ((1, "waiting"), (3, "handled"), (6, "sent")):
            self.assertEqual(status_of(other, number), status)
        for number in (3, 6):
            self.assertEqual((question_of(other, number), answer_of(other, number)), ("open", None))
        self.check_raises(NoMessage(1), question_of, other, 1)
        self.check_raises(NoMessage(1), answer_of, other, 1)
        for number in (2, 4, 5, 0, 7, -1, True, None, "1", (3,), [3]):
            for call in (status_of, question_of, answer_of):
                self.check_raises(NoMessage(number), call, other, number)

    def test_counts(self):
        tree, other = self.sample()
        self.assertEqual((counts(tree), counts(other)), ((1, 1, 3, 1), (1, 1, 0, 0)))
        self.assertEqual(other.send("a", "go"), 7)
        other.run(other.tick + 3)
        self.assertEqual((counts(other), counts(other.twin())), ((0, 2, 1, 0), (0, 2, 1, 0)))
        other.fail("b")
        self.assertEqual((counts(other), status_of(other, 1)), ((0, 0, 1, 2), "dropped"))
        self.assertEqual(counts(restored(other.plan, snapshot(other))), (0, 0, 0, 0))

    def test_open_questions_are_answered_and_returned_later(self):
        rows = (row("q", ("mode", "second")), row("go", ("reply", ("plus", 3)), mode="second"))
        tree = ran(root(worker("a", *rows), worker("b", row("q")), most=9), 1)
        first, second = tree.ask("a", "q", 4), tree.ask("b", "q", 5)
        tree.run(3)
        other = restored(tree.plan, snapshot(tree))
        other.send("a", "go", 6)
        other.run(5)
        other.fail("b")
        self.assertEqual([(status_of(other, number), question_of(other, number), answer_of(other, number))
                          for number in (first, second)], [("handled", "answered", 9), ("handled", "returned", None)])
        again = restored(other.plan, snapshot(other))
        for number in (first, second):
            self.check_raises(NoMessage(number), status_of, again, number)

    def test_entries_chains_and_effects(self):
        tree = ran(root(WorkerPlan("a"), WorkerPlan("b", opening=4), most=9), 2)
        tree.fail("a")
        other = restored(tree.plan, snapshot(tree))
        self.assertEqual((list(entries(other)), other.entries_count), ([], 7))
        tree.run(9)
        self.assertEqual(other.run(9), 5)
        self.assertEqual([entry[2] for entry in entries(other)], [5, 8, 9, 10, 11])
        # The causes 5 and above it are not there: 5 is the last number of each chain.
        self.assertEqual([chain(other, number) for number in (8, 9, 12)],
                         [(8, 5), (9, 8, 5), (12, 11, 10, 9, 8, 5)])
        self.assertEqual([effects(other, number) for number in (8, 10, 12)], [(9, 10, 11, 12), (11, 12), ()])
        for number in (0, 1, 5, 7, 13, -1, True, None, "8", (8,), [8]):
            for call in (chain, effects):
                self.check_raises(NoEntry(number), call, other, number)
        other.fail("b")
        self.assertEqual((chain(other, 13), chain(other, 14), effects(other, 13)), ((13,), (14, 13), (14,)))
        self.assertEqual((chain(tree, 8)[:3], effects(tree, 5)[0]), ((8, 5, 4), 8))

    def test_a_step_whose_cause_is_older(self):
        # The message was sent by an older entry, which all that follows goes back to.
        tree = ran(root(worker("a", row("go", ("note", "x")))), 1)
        tree.send("a", "go")
        cause = tree.entries_count - 1
        other = restored(tree.plan, snapshot(tree))
        other.run(9)
        self.assertEqual([chain(other, number) for number, *_ in entries(other)], [
            (cause + 2, cause), (cause + 3, cause + 2, cause), (cause + 4, cause + 3, cause + 2, cause),
            (cause + 5, cause + 3, cause + 2, cause)])

    def test_inputs(self):
        tree = ran(root(WorkerPlan("a"), most=9), 1)
        tree.fail("a")
        other = restored(tree.plan, snapshot(tree))
        self.assertEqual(inputs(other), ())
        other.send("a", "go", 2)
        other.run(5)
        other.stop()
        self.assertEqual(inputs(other), ((1, "send", ("a", "go", 2)), (5, "stop", ())))
        self.assertEqual(inputs(other.twin()), inputs(other))
        self.assertEqual(inputs(restored(other.plan, snapshot(other))), ())

    def test_played_and_standing_beside_it(self):
        # The older inputs and the newer ones together make the whole log.
        for seed in range(40):
            chance = seeded(seed)
            tree = Tree(scripted_root(chance) if seed % 3 else root_by_chance(chance))
            history_by_chance(chance, tree, 12)
            older, log = inputs(tree), log_of(tree)
            other = restored(tree.plan, snapshot(tree))
            history_by_chance(chance, other, 12)
            whole = tuple(log + list(entries(other)))
            self.assertEqual(standing(tree.plan, whole), len(whole))
            again = played(tree.plan, older + inputs(other))
            again.run(max(again.tick, other.tick))
            other.run(other.tick)
            self.assertEqual(log_of(again), log + list(entries(other)))
            self.assertEqual(snapshot(again), snapshot(other))

    def test_shutdown_told_beside_it(self):
        tree = ran(root(SupervisorPlan("s", WorkerPlan("a", closing=3), deadline=2), WorkerPlan("b", closing=1)), 4)
        tree.add("s", WorkerPlan("x", closing=1))
        tree.run(5)
        other = restored(tree.plan, snapshot(tree))
        expected = (("b", 6, "shutdown"), ("x", 7, "shutdown"), ("a", 8, "killed"), ("s", 8, "killed"),
                    ("root", 8, "shutdown"))
        self.assertEqual((shutdown_told(tree), shutdown_told(other)), (expected, expected))

    def test_names_and_places(self):
        tree = ran(root(WorkerPlan("a")), 1)
        tree.add("root", WorkerPlan("x"))
        tree.add("root", WorkerPlan("y"))
        tree.run(2)
        tree.take_out("x")
        tree.run(3)
        other = restored(tree.plan, snapshot(tree))
        self.assertEqual(("y" in other, "x" in other, other.listed("root")), (True, False, ("a", "y")))
        self.check_raises(NoPlace("x"), other.plan_of, "x")


if __name__ == "__main__":
    unittest.main()
