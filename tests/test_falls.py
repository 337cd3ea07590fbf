"""watchtree.falls: stubborn failures, when they end a tree, and how far a failure reaches (12)."""

import unittest
from math import prod

from tests.histories import RESTARTS, all_plans, do, plain_root, plain_worker, root_by_chance, seeded
from tests.samples import ALL_KINDS, NO_STRINGS, chain_of, plan_of, scaled
from tests.telling import TreeCase, log_of, ran, root
from watchtree.errors import BadRoot, NoPlace, NotQuiet, NotRunning, NotWorker
from watchtree.falls import attacks, fall, fewest, reach
from watchtree.plans import SupervisorPlan, WorkerPlan, names, path_to, plan_at
from watchtree.times import opening_time
from watchtree.trees import Tree


def supervisor(name, *children, **settings):
    return SupervisorPlan(name, *children, **settings)


def workers_in(plan):
    """The names of the workers in a plan."""
    return [one.name for one in all_plans(plan) if isinstance(one, WorkerPlan)]


def product_over(plan, place):
    """The product of most + 1 over the supervisors on the path to a place."""
    return prod(plan_at(plan, name).most + 1 for name in path_to(plan, place)[:-1])


def stubborn(plan, place, most):
    """A tree after stubborn failures of a worker, at most so many, and their number."""
    tree = Tree(plan)
    many = 0
    tree.run(0)
    while not tree.is_over:
        if tree.state_of(place) == "running":
            if many == most:
                break
            tree.fail(place)
            many += 1
            tree.run(tree.tick)
        else:
            tree.run(tree.next_tick)
    return tree, many


def names_of_processes(log):
    """The names of the places of all processes, by their numbers."""
    return {data[0]: data[1] for _, _, _, word, data in log if word == "started"}


def ticks_of(log, process, word):
    """The ticks of the entries with a word that are about a process."""
    return [tick for _, tick, _, said, data in log if said == word and data[0] == process]


class Attacks(TreeCase):
    def test_one(self):
        # Only the worker is started again, which takes 3 ticks; the others are stopped when the root gives up.
        children = (WorkerPlan("a", opening=1, closing=2), WorkerPlan("b", opening=3, closing=4),
                    WorkerPlan("c", opening=5, closing=6))
        self.assertEqual(attacks(root(*children, most=2, span=7), "b"), (("root", 3, 6 + 8),))
        self.assertEqual(attacks(root(*children, most=2, span=6), "b"), (("root", 3, None),))

    def test_rest(self):
        # c is stopped, then b and c are started.
        children = (WorkerPlan("a", opening=1, closing=2), WorkerPlan("b", opening=3, closing=4),
                    WorkerPlan("c", opening=5, closing=6, deadline=4))
        self.assertEqual(attacks(root(*children, strategy="rest", span=13), "b"), (("root", 12, 12 + 6),))
        self.assertEqual(attacks(root(*children, strategy="rest", span=12), "b"), (("root", 12, None),))

    def test_all(self):
        # c and a are stopped, then all are started.
        children = (WorkerPlan("a", opening=1, closing=2), WorkerPlan("b", opening=3, closing=4),
                    WorkerPlan("c", opening=5, closing=6))
        self.assertEqual(attacks(root(*children, strategy="all", span=18), "b"), (("root", 17, 17 + 8),))
        self.assertEqual(attacks(root(*children, strategy="all", span=17), "b"), (("root", 17, None),))

    def test_from_the_own_supervisor_outwards(self):
        # For s, the attack of t makes its cycles longer than its mends; the first note of s waits for the end of t.
        worker = WorkerPlan("w", opening=2, closing=9)
        inner = supervisor("t", worker, WorkerPlan("u", closing=1), most=2, span=9)
        middle = supervisor("s", inner, WorkerPlan("v", opening=1, closing=3), most=1, span=9)
        self.assertEqual(attacks(root(middle, most=3, span=100), "w"),
                         (("t", 2, 5), ("s", 7, 4 + 7 + 3), ("root", 3 + 14, 14 + 3 * 17)))

    def test_the_first_one_that_does_not_give_up_and_those_outside_of_it(self):
        inner = supervisor("t", WorkerPlan("w", opening=1), most=1, span=2)
        middle = supervisor("s", inner, most=1, span=2)
        outer = supervisor("r", middle, most=0, span=1)
        self.assertEqual(attacks(root(outer), "w"),
                         (("t", 1, 1), ("s", 2, None), ("r", None, None), ("root", None, None)))

    def test_failures_in_one_tick(self):
        inner = supervisor("s", WorkerPlan("w"), most=20, span=1)
        self.assertEqual(attacks(root(inner, most=20, span=1), "w"), (("s", 0, 0), ("root", 0, 0)))
        self.assertEqual(fall(root(inner, most=20, span=1), "w"), (441, 0))

    def test_without_restarts(self):
        plan = root(WorkerPlan("w", opening=10 ** 9), WorkerPlan("v", closing=10 ** 9), most=0, span=1, strategy="all")
        self.assertEqual(attacks(plan, "w"), (("root", 2 * 10 ** 9, 10 ** 9),))
        self.assertEqual(fall(plan, "w"), (1, 2 * 10 ** 9))

    def test_a_worker_that_runs_before_its_supervisor_does(self):
        # w fails before b has opened: the note waits for this.
        plan = root(WorkerPlan("w", opening=1), WorkerPlan("b", opening=5), most=0)
        self.assertEqual((attacks(plan, "w"), fall(plan, "w")), ((("root", 1, 0),), (1, 6)))

    def test_every_supervisor_notes_in_cycles_and_ends_by_its_attack(self):
        # 12.2, for each process of the supervisors on the path.
        notes = ends = 0
        for seed in range(100):
            plan = plain_root(seeded(seed))
            for place in workers_in(plan):
                tree, _ = stubborn(plan, place, min(product_over(plan, place), 40) + 10)
                log = log_of(tree)
                cycles = {name: (cycle, attack) for name, cycle, attack in attacks(plan, place)}
                self.assertEqual(tuple(cycles), tuple(reversed(path_to(plan, place)[:-1])))
                for process, name in names_of_processes(log).items():
                    cycle, attack = cycles.get(name, (None, None))
                    noted = ticks_of(log, process, "restart")
                    if cycle is None:
                        continue
                    self.assertTrue(all(after - before == cycle for before, after in zip(noted, noted[1:])))
                    notes += max(0, len(noted) - 1)
                    ended = ticks_of(log, process, "ended")
                    if ended:
                        self.assertEqual(ended[0] - ticks_of(log, process, "running")[0], attack)
                        ends += 1
        self.assertTrue(notes > 1000 and ends > 300)

    def test_ticks_that_are_multiplied(self):
        # 12.6: the cycles, the attacks and the tick of the end are, too.
        for seed in range(60):
            plan = plain_root(seeded(seed))
            larger = scaled(plan, 7)
            for place in workers_in(plan):
                told = attacks(plan, place)
                self.assertEqual(attacks(larger, place), tuple(
                    (name, None if cycle is None else cycle * 7, None if attack is None else attack * 7)
                    for name, cycle, attack in told))
                end = fall(plan, place)
                self.assertEqual(fall(larger, place), None if end is None else (end[0], end[1] * 7))

    def test_calls_by_name(self):
        plan = root(WorkerPlan("w"))
        self.assertEqual(attacks(place="w", plan=plan), attacks(plan, "w"))
        self.assertEqual(fall(place="w", plan=plan), fall(plan, "w"))
        self.assertEqual(fewest(plan=plan), 2)
        self.assertEqual(reach(place="w", tree=ran(plan)), ("w",))


class Falls(TreeCase):
    def test_trees_that_are_run(self):
        # 12.3: how many failures end the tree, and when; with others it is not over after more failures than these.
        falls = stands = 0
        for seed in range(180):
            plan = plain_root(seeded(seed))
            for place in workers_in(plan):
                product = product_over(plan, place)
                tree, many = stubborn(plan, place, product + 20)
                told = fall(plan, place)
                self.assertEqual(tree.is_over, told is not None)
                if told is None:
                    stands += 1
                else:
                    falls += 1
                    self.assertEqual(told, (many, tree.tick))
                    self.assertEqual(told, (product, opening_time(plan) + attacks(plan, place)[-1][2]))
        self.assertTrue(falls > 200 and stands > 200)

    def test_what_is_never_over_is_repeated(self):
        # 12.3: every cycle of the outermost supervisor that all those below it bring to notes.
        repeated = 0
        for seed in range(80):
            plan = plain_root(seeded(seed))
            for place in workers_in(plan):
                told = [(name, cycle) for name, cycle, _ in attacks(plan, place) if cycle is not None]
                if fall(plan, place) is not None or told[-1][1] == 0:
                    continue
                name, cycle = told[-1]
                tree, _ = stubborn(plan, place, 40)
                log = log_of(tree)
                called = names_of_processes(log)
                notes = [entry for entry in log if entry[3] == "restart" and called[entry[4][0]] == name]
                # Supervisors outside of it may still be opening at its first note.
                inside = names(plan_at(plan, name))
                rows = [[(entry[1] - begin[1], entry[3], called[entry[4][0]], entry[4][1:])
                         for entry in log[begin[0] - 1:end[0] - 1]
                         if entry[3] not in ("input", "started") and called[entry[4][0]] in inside]
                        for begin, end in zip(notes, notes[1:])]
                for begin, end in zip(notes, notes[1:]):
                    self.assertEqual(end[1] - begin[1], cycle)
                for row, other in zip(rows, rows[1:]):
                    self.assertEqual(row, other)
                    repeated += 1
        self.assertGreater(repeated, 200)

    def test_the_border_between_a_fall_and_none(self):
        plan = root(WorkerPlan("w", opening=2), most=3, span=7)
        self.assertEqual(fall(plan, "w"), (4, 2 + 6))
        self.assertEqual(stubborn(plan, "w", 10)[1], 4)
        plan = root(WorkerPlan("w", opening=2), most=3, span=6)
        self.assertIsNone(fall(plan, "w"))
        self.assertFalse(stubborn(plan, "w", 10)[0].is_over)


class Fewest(TreeCase):
    def test_the_least_product_over_all_workers(self):
        inner = supervisor("s", WorkerPlan("a"), WorkerPlan("b"), most=2)
        self.assertEqual(fewest(root(inner, most=3)), 12)
        self.assertEqual(fewest(root(inner, WorkerPlan("c"), most=3)), 4)
        self.assertEqual(fewest(root(inner, supervisor("t", WorkerPlan("c"), most=0), most=3)), 4)

    def test_a_supervisor_without_workers_does_not_count(self):
        inner = supervisor("s", WorkerPlan("a"), most=4)
        self.assertEqual(fewest(root(supervisor("t", supervisor("u")), inner, most=1)), 10)

    def test_without_workers(self):
        self.assertIsNone(fewest(root()))
        self.assertIsNone(fewest(root(supervisor("s"), supervisor("t", supervisor("u")))))

    def test_it_does_not_matter_whether_the_supervisors_give_up(self):
        self.assertEqual(fewest(root(WorkerPlan("a", opening=5), span=1)), 2)

    def test_it_is_the_least_product_for_trees_by_chance(self):
        for seed in range(100):
            plan = plain_root(seeded(seed))
            self.assertEqual(fewest(plan), min(product_over(plan, place) for place in workers_in(plan)))

    def test_one_fewer_does_not_end_the_tree(self):
        # 12.4: whichever workers fail, and whenever.
        for seed in range(150):
            chance = seeded(seed)
            plan = plain_root(chance)
            workers = workers_in(plan)
            tree = Tree(plan)
            tree.run_until_quiet(1000)
            left = fewest(plan) - 1
            for _ in range(40):
                running = [place for place in workers if tree.state_of(place) == "running"]
                if left and running and chance.random() < 0.7:
                    tree.fail(chance.choice(running))
                    left -= 1
                tree.run(tree.tick + chance.choice((0, 0, 1)))
            tree.run(tree.tick + 1000)
            self.assertFalse(tree.is_over)

    def test_so_many_can_end_it(self):
        plan = root(supervisor("s", WorkerPlan("a"), most=2), WorkerPlan("b"), most=1)
        self.assertEqual((fewest(plan), stubborn(plan, "b", 9)[1]), (2, 2))


class WrongArguments(TreeCase):
    def test_plans_that_are_no_roots(self):
        for value in ALL_KINDS + (WorkerPlan("a"), [root()], (root(),), SupervisorPlan):
            for call in (attacks, fall):
                self.check_raises(BadRoot("plan"), call, value, "a")
            self.check_raises(BadRoot("plan"), fewest, value)
        for plan, rule in ((root(WorkerPlan("root")), "names"), (plan_of(61), "size"), (chain_of(7), "levels"),
                           (root(supervisor("s", supervisor("t", most=10), most=9), most=9), "product")):
            for place in ("root", "no", 1, None):
                self.check_raises(BadRoot(rule), attacks, plan, place)
                self.check_raises(BadRoot(rule), fall, plan, place)
            self.check_raises(BadRoot(rule), fewest, plan)

    def test_places(self):
        plan = root(supervisor("s", WorkerPlan("w")), WorkerPlan("a"))
        tree = ran(plan)
        for value in NO_STRINGS + ("", "no", "A", "own", ["a"], ("a",)):
            for call, first in ((attacks, plan), (fall, plan), (reach, tree)):
                self.check_raises(NoPlace(value), call, first, value)
        for value in ("root", "s"):
            for call, first in ((attacks, plan), (fall, plan), (reach, tree)):
                self.check_raises(NotWorker(value), call, first, value)

    def test_reach_of_what_does_not_run(self):
        plan = root(WorkerPlan("a"), WorkerPlan("b", opening=5, restart="transient"), supervisor("s", WorkerPlan("w")))
        tree = Tree(plan)
        self.check_raises(NotRunning("a"), reach, tree, "a")
        tree.run(1)
        for place in ("b", "w"):
            self.check_raises(NotRunning(place), reach, tree, place)
        self.check_raises(NotQuiet(), reach, tree, "a")
        self.check_raises(NotWorker("s"), reach, tree, "s")
        self.check_raises(NoPlace("x"), reach, tree, "x")
        tree.run(5)
        self.assertEqual(reach(tree, "b"), ("b",))
        tree.fail("b", "normal")
        # The tree is not quiet yet: that b does not run is told first.
        self.check_raises(NotRunning("b"), reach, tree, "b")
        self.check_raises(NotQuiet(), reach, tree, "a")
        tree.run(6)
        self.check_raises(NotRunning("b"), reach, tree, "b")
        self.assertEqual(reach(tree, "a"), ("a",))

    def test_reach_in_a_tree_that_is_over(self):
        tree = ran(root(WorkerPlan("a")), 1)
        tree.stop()
        tree.run(2)
        self.check_raises(NotRunning("a"), reach, tree, "a")
        self.check_raises(NotWorker("root"), reach, tree, "root")

    def test_reach_while_a_worker_is_closing(self):
        tree = ran(root(WorkerPlan("a", closing=5), WorkerPlan("b")), 1)
        tree.take_out("a")
        tree.run(2)
        self.check_raises(NotRunning("a"), reach, tree, "a")
        self.check_raises(NotQuiet(), reach, tree, "b")

    def test_reach_with_a_timer_on_the_agenda_alone(self):
        rows = (("first", "start", 1, (("later", 9, "x", 0),)),)
        tree = ran(root(WorkerPlan("a", script=rows)), 5)
        self.check_raises(NotQuiet(), reach, tree, "a")
        tree.run(20)
        self.assertEqual(reach(tree, "a"), ("a",))


def quiet(plan):
    """A tree that is run until it is quiet."""
    tree = Tree(plan)
    tree.run_until_quiet(10 ** 9)
    return tree


def names_ended(tree, place):
    """The ascending tuple of the names of the places whose processes end by the next failure of a worker."""
    other = tree.twin()
    since = other.entries_count
    other.fail(place)
    other.run_until_quiet(other.tick + 10 ** 6)
    called = names_of_processes(log_of(other))
    return tuple(sorted(called[data[0]] for number, _, _, word, data in log_of(other)
                        if number > since and word == "ended"))


class Reach(TreeCase):
    def check(self, tree, place, text):
        """The reach of a place is these names, and just these end."""
        self.assertEqual(reach(tree, place), tuple(text.split()))
        self.assertEqual(names_ended(tree, place), tuple(text.split()))

    def children(self):
        return (WorkerPlan("a"), supervisor("s", WorkerPlan("x"), WorkerPlan("y")), WorkerPlan("m"), WorkerPlan("z"),
                supervisor("t", supervisor("u", WorkerPlan("k"))))

    def test_each_strategy(self):
        for strategy, places in (("one", "m"), ("rest", "k m t u z"), ("all", "a k m s t u x y z")):
            self.check(quiet(root(*self.children(), strategy=strategy)), "m", places)

    def test_the_strategy_of_the_own_supervisor(self):
        tree = quiet(root(*self.children(), strategy="all"))
        self.check(tree, "x", "x")
        self.check(tree, "k", "k")

    def test_first_and_last_children(self):
        tree = quiet(root(*self.children(), strategy="rest"))
        self.check(tree, "a", "a k m s t u x y z")
        self.check(quiet(root(WorkerPlan("a"), WorkerPlan("b"), strategy="rest")), "b", "b")

    def test_without_a_budget_the_supervisor_ends_with_all_below_it(self):
        inner = supervisor("s", WorkerPlan("a"), supervisor("t", WorkerPlan("b")), most=0)
        for strategy, places in (("one", "a b s t"), ("rest", "a b s t z"), ("all", "a b c s t z")):
            self.check(quiet(root(WorkerPlan("c"), inner, WorkerPlan("z"), strategy=strategy)), "a", places)

    def test_up_to_the_root(self):
        inner = supervisor("s", supervisor("t", WorkerPlan("a"), most=0), WorkerPlan("b"), most=0)
        self.check(quiet(root(inner, WorkerPlan("c"))), "a", "a b s t")
        self.check(quiet(root(inner, WorkerPlan("c"), most=0)), "a", "a b c root s t")
        self.check(quiet(root(inner, WorkerPlan("c"), most=0)), "b", "a b c root s t")
        self.check(quiet(root(inner, WorkerPlan("c"), most=0)), "c", "a b c root s t")

    def test_the_restart_of_the_root_means_nothing(self):
        for restart in RESTARTS:
            self.check(quiet(root(WorkerPlan("c"), most=0, restart=restart)), "c", "c root")

    def test_a_worker_that_is_not_mended(self):
        tree = quiet(root(WorkerPlan("a", restart="temporary"), WorkerPlan("b"), most=0, strategy="all"))
        self.check(tree, "a", "a")
        self.check(tree, "b", "a b root")

    def test_a_transient_worker_is_mended(self):
        tree = quiet(root(WorkerPlan("a", restart="transient"), WorkerPlan("b"), strategy="all"))
        self.check(tree, "a", "a b")

    def test_a_supervisor_that_is_not_mended(self):
        for restart, places in (("temporary", "a s"), ("transient", "a c s"), ("permanent", "a c s")):
            inner = supervisor("s", WorkerPlan("a"), most=0, restart=restart)
            self.check(quiet(root(WorkerPlan("c"), inner, strategy="all")), "a", places)

    def test_notes_that_count_at_the_present_tick(self):
        tree = quiet(root(WorkerPlan("a"), WorkerPlan("b"), most=1, span=5))
        tree.fail("a")
        tree.run(4)
        self.assertEqual(tree.budget("root"), 0)
        self.check(tree, "b", "a b root")
        tree.run(5)
        self.check(tree, "b", "b")

    def sample(self, closing, **settings):
        """A tree at the tick 3 with a note of the tick 0 in the root; s gives up so many ticks after a failure of a."""
        inner = supervisor("s", WorkerPlan("a"), WorkerPlan("b", closing=closing, **settings), most=0)
        tree = quiet(root(inner, WorkerPlan("c"), most=1, span=5))
        tree.fail("c")
        tree.run(3)
        self.assertEqual((tree.budget("root"), tree.is_quiet), (0, True))
        return tree

    def test_the_budget_at_the_tick_at_which_the_supervisor_has_ended(self):
        self.check(self.sample(0), "a", "a b c root s")
        self.check(self.sample(1), "a", "a b c root s")
        self.check(self.sample(2), "a", "a b s")
        self.check(self.sample(9), "a", "a b s")

    def test_deadlines_let_a_supervisor_end_earlier(self):
        self.check(self.sample(9, deadline=1), "a", "a b c root s")
        self.check(self.sample(9, deadline=2), "a", "a b s")

    def test_the_worker_that_fails_needs_no_time_to_stop(self):
        inner = supervisor("s", WorkerPlan("a", closing=9), most=0)
        tree = quiet(root(inner, WorkerPlan("c"), most=1, span=5))
        tree.fail("c")
        tree.run(3)
        self.check(tree, "a", "a c root s")

    def test_the_supervisor_that_gives_up_has_no_deadline(self):
        inner = supervisor("s", WorkerPlan("a"), WorkerPlan("b", closing=2), most=0, deadline=0)
        tree = quiet(root(inner, WorkerPlan("c"), most=1, span=5))
        tree.fail("c")
        tree.run(3)
        self.check(tree, "a", "a b s")

    def test_the_times_of_several_levels_are_added(self):
        # t gives up within 1 tick, s within 2 more ones: the note of the tick 0 counts up to the tick 5.
        for closing, places in ((1, "a b c d root s t"), (2, "a b c s t")):
            inner = supervisor("t", WorkerPlan("a"), WorkerPlan("b", closing=1), most=0)
            middle = supervisor("s", inner, WorkerPlan("c", closing=closing), most=0)
            tree = quiet(root(middle, WorkerPlan("d"), most=1, span=6))
            tree.fail("d")
            tree.run(3)
            self.check(tree, "a", places)

    def test_the_stopping_time_of_a_supervisor_beside_it(self):
        for deadline, places in ((None, "a s t x y"), (3, "a s t x y"), (2, "a c root s t x y")):
            beside = supervisor("t", WorkerPlan("x", closing=1), WorkerPlan("y", closing=3), deadline=deadline)
            tree = quiet(root(supervisor("s", WorkerPlan("a"), beside, most=0), WorkerPlan("c"), most=1, span=6))
            tree.fail("c")
            tree.run(3)
            self.check(tree, "a", places)

    def test_places_that_do_not_run(self):
        # They do not end once more, and need no time to stop.
        still = WorkerPlan("b", closing=9, restart="transient")
        inner = supervisor("s", WorkerPlan("a"), still, most=0)
        tree = quiet(root(inner, WorkerPlan("c"), most=1, span=5, strategy="all"))
        tree.fail("b", "normal")
        tree.run(1)
        self.check(tree, "c", "a c s")
        self.check(tree, "a", "a c s")
        tree = quiet(root(inner, WorkerPlan("c"), most=1, span=5))
        tree.fail("b", "normal")
        tree.fail("c")
        tree.run(3)
        self.check(tree, "a", "a c root s")

    def test_places_that_left_the_list(self):
        tree = quiet(root(WorkerPlan("a"), WorkerPlan("b", restart="temporary"), WorkerPlan("c"), strategy="all"))
        tree.fail("b")
        tree.take_out("c")
        tree.run(1)
        self.check(tree, "a", "a")

    def test_added_places(self):
        tree = quiet(root(WorkerPlan("a"), supervisor("s", WorkerPlan("w"), most=0), strategy="rest", span=5))
        tree.add("root", supervisor("x", WorkerPlan("y"), WorkerPlan("z", closing=4), most=0))
        tree.add("s", WorkerPlan("v", closing=5))
        tree.run(1)
        self.check(tree, "a", "a s v w x y z")
        self.check(tree, "y", "x y z")
        self.check(tree, "w", "s v w x y z")
        tree.fail("a")
        self.assertTrue(tree.run_until_quiet(100))
        self.assertEqual((tree.tick, tree.budget("root"), tree.listed("s")), (10, 1, ("w",)))

    def test_the_tree_stays_as_it_was(self):
        tree = quiet(root(*self.children(), strategy="all", most=0))
        before = log_of(tree)
        self.assertEqual(reach(tree, "m"), tuple("a k m root s t u x y z".split()))
        self.assertEqual((log_of(tree), tree.is_quiet, tree.budget("root")), (before, True, 0))

    def test_what_ends_in_trees_by_chance(self):
        # 12.5, also with temporary and added children, and places that do not run.
        sizes = []
        for seed in range(160):
            chance = seeded(seed)
            plan = root_by_chance(chance, make_worker=plain_worker if seed % 2 else self.any_worker)
            tree = quiet(plan)
            for _ in range(12):
                places = [name for name in tree.running if isinstance(tree.plan_of(name), WorkerPlan)]
                for place in places:
                    found = reach(tree, place)
                    self.assertEqual(found, names_ended(tree, place))
                    sizes.append(len(found))
                do(tree, *self.next_input(chance, places))
                if not tree.run_until_quiet(tree.tick + 1000) or tree.is_over:
                    break
                tree.run(tree.tick + chance.choice((0, 0, 1, 2)))
        self.assertTrue(len(sizes) > 1500 and len([size for size in sizes if size > 3]) > 200)

    def any_worker(self, chance, name, *_):
        return WorkerPlan(name, restart=chance.choice(RESTARTS), closing=chance.choice((0, 1, 3)),
                          deadline=chance.choice((None, 2)))

    def next_input(self, chance, places):
        place = chance.choice(places + ["p0"])
        added = WorkerPlan(f"x{chance.randint(0, 3)}", closing=1)
        return chance.choice((("fail", (place,)), ("fail", (place,)), ("fail", (place, "normal")),
                              ("take_out", (place,)), ("add", ("p0", added))))


if __name__ == "__main__":
    unittest.main()
