"""watchtree.trees: facts of the document that rest on mends, messages, links and monitors, for trees by chance."""

import unittest
from functools import cache
from math import prod

from tests.histories import do, history_by_chance, root_by_chance, scripted_root, seeded
from tests.samples import scaled
from tests.telling import TreeCase, log_of, ran, row, worker
from watchtree.messages import counts, question_of, status_of
from watchtree.plans import SupervisorPlan
from watchtree.trees import Tree

STATUSES = ("sent", "waiting", "handled", "dropped")


class Ticks(TreeCase):
    def test_every_tick_has_finitely_many_steps(self):
        # 4.4: a worker that ends as soon as it runs is started as often as 3.3 lets it, all in the first tick.
        for mosts in ((9, 9, 9), (0, 0, 0), (20, 2, 1), (4, 4, 4, 7)):
            plan = worker("w", row("start", ("end", "failed")))
            for at, most in enumerate(mosts):
                plan = SupervisorPlan(f"s{at}", plan, most=most, span=1)
            tree = ran(plan)
            self.assertEqual((tree.is_over, tree.starts_of("w")), (True, prod(most + 1 for most in mosts)))
            for at in range(len(mosts)):
                self.assertEqual(tree.starts_of(f"s{at}"), prod(most + 1 for most in mosts[at + 1:]))

    def test_what_was_asked_to_stop_or_was_killed_is_not_mended(self):
        # 7.3: a note of a restart is that of a place whose latest process ended by itself, or did not run.
        notes = 0
        for tree in trees():
            latest, stopped, felt = {}, set(), set()
            for _, _, _, word, data in log_of(tree):
                if word == "started":
                    latest[data[1]] = data[0]
                if word == "signal":
                    felt.add(data[0])
                if word == "closing":
                    stopped.add(data[0])
                if word == "ended" and data[1] in ("gave_up", "refused"):
                    stopped.discard(data[0])
                # Who is linked with a process that was killed ends with this reason, too, and is mended.
                if word == "ended" and data[1] == "killed" and data[0] not in felt:
                    stopped.add(data[0])
                if word == "restart":
                    notes += 1
                    self.assertNotIn(latest[data[1]], stopped)
        self.assertGreater(notes, 100)

    def test_ticks_that_are_multiplied(self):
        # 12.6: also with refused starts, temporary and added children.
        for seed in range(120):
            chance = seeded(seed)
            plan = root_by_chance(chance)
            tree = Tree(plan)
            done = history_by_chance(chance, tree, 30)
            tree.run(tree.tick)
            for times in (2, 7):
                other = Tree(scaled(plan, times))
                for method, arguments in done:
                    if method == "run":
                        arguments = (arguments[0] * times,)
                    if method == "add" and len(arguments) == 2:
                        arguments = (arguments[0], scaled(arguments[1], times))
                    if method not in ("send", "ask"):
                        do(other, method, arguments)
                other.run(other.tick)
                words = ("started", "running", "closing", "ended", "restart")
                logs = [[entry for entry in log_of(one) if entry[3] in words] for one in (tree, other)]
                self.assertEqual([(tick * times, word, data) for _, tick, _, word, data in logs[0]],
                                 [(tick, word, data) for _, tick, _, word, data in logs[1]])

    def test_with_one_child_the_strategies_do_the_same(self):
        for seed in range(60):
            chance = seeded(seed)
            child = root_by_chance(chance)
            logs = []
            for strategy in ("one", "rest", "all"):
                tree = Tree(SupervisorPlan("top", child, strategy=strategy, most=2, span=5))
                history_by_chance(seeded(seed), tree, 30)
                logs.append([entry for entry in log_of(tree) if entry[4][0] != "add"])
            self.assertEqual(logs[0], logs[1])
            self.assertEqual(logs[0], logs[2])


@cache
def trees():
    """Trees with scripts by chance, that had a history; they are only looked at, so all tests have the same ones."""
    found = []
    for seed in range(300):
        chance = seeded(seed)
        found.append(Tree(scripted_root(chance)))
        history_by_chance(chance, found[-1], 40)
    return found


class Messages(TreeCase):
    def test_the_first_one_that_was_sent_is_the_first_one_that_is_taken(self):
        # 13.10, of two messages from one process to another one with the same word.
        pairs = 0
        for tree in trees():
            sent = {data[0]: data for _, _, _, word, data in log_of(tree) if word == "sent"}
            taken = {}
            for _, _, _, word, data in log_of(tree):
                if word == "taken" and sent[data[0]][1] in ("send", "ask"):
                    _, _, sender, _, heard, _ = sent[data[0]]
                    key = (sender, data[1], heard)
                    self.assertLess(taken.get(key, 0), data[0])
                    pairs += key in taken
                    taken[key] = data[0]
        self.assertGreater(pairs, 20)

    def test_a_process_takes_at_most_one_message_in_a_tick(self):
        for tree in trees():
            taken = [(tick, data[1]) for _, tick, _, word, data in log_of(tree) if word == "taken"]
            self.assertEqual(len(set(taken)), len(taken))

    def test_each_message_has_one_status(self):
        for tree in trees():
            log = log_of(tree)
            sent = [data[0] for _, _, _, word, data in log if word == "sent"]
            self.assertEqual(sent, list(range(1, len(sent) + 1)))
            expected = dict.fromkeys(sent, "sent")
            for _, _, _, word, data in log:
                status = {"arrived": "waiting", "taken": "handled", "dropped": "dropped"}.get(word)
                if status is not None:
                    before = {"waiting": ("sent",), "handled": ("waiting",), "dropped": ("sent", "waiting")}[status]
                    self.assertIn(expected[data[0]], before)
                    expected[data[0]] = status
            self.assertEqual({number: status_of(tree, number) for number in sent}, expected)
            statuses = list(expected.values())
            self.assertEqual(counts(tree), tuple(statuses.count(status) for status in STATUSES))

    def test_each_question_is_answered_or_returned_once(self):
        answered = returned = 0
        for tree in trees():
            log = log_of(tree)
            asked = {data[0] for _, _, _, word, data in log if word == "sent" and data[1] == "ask"}
            done = [data[0] for _, _, _, word, data in log if word in ("answered", "returned")]
            self.assertEqual(len(set(done)), len(done))
            self.assertLessEqual(set(done), asked)
            answered += len([entry for entry in log if entry[3] == "answered"])
            returned += len([entry for entry in log if entry[3] == "returned"])
            # An open one has not arrived, waits, or was taken by a process that has not ended.
            took = {data[0]: data[1] for _, _, _, word, data in log if word == "taken"}
            ended = {data[0] for _, _, _, word, data in log if word == "ended"}
            for number in asked - set(done):
                self.assertEqual(question_of(tree, number), "open")
                status = status_of(tree, number)
                self.assertTrue(status in ("sent", "waiting") or status == "handled" and took[number] not in ended)
        self.assertTrue(answered > 5 and returned > 100)


class LinksAndMonitors(TreeCase):
    def test_an_abnormal_end_ends_those_who_are_joined_in_the_same_tick(self):
        # 14.5, for those who do not trap and are not closing when the signal comes.
        ends = 0
        for tree in trees():
            joined, traps, closing, ended = {}, set(), set(), {}
            log = log_of(tree)
            for number, tick, _, word, data in log:
                if word == "linked":
                    joined.setdefault(data[0], set()).add(data[1])
                    joined.setdefault(data[1], set()).add(data[0])
                if word == "unlinked":
                    joined[data[0]].discard(data[1])
                    joined[data[1]].discard(data[0])
                if word == "trap":
                    (traps.add if data[1] else traps.discard)(data[0])
                if word == "closing":
                    closing.add(data[0])
                if word == "ended":
                    ended[data[0]] = (tick, data[1])
                    others = joined.pop(data[0], set())
                    for other in others:
                        joined[other].discard(data[0])
                    if data[1] not in ("normal", "shutdown"):
                        for other in others:
                            felt = [entry for entry in log if entry[3] == "signal" and entry[4] == (other, data[1])
                                    and entry[0] > number and entry[1] == tick]
                            died = [entry for entry in log if entry[3] == "ended" and entry[4][0] == other
                                    and entry[1] == tick]
                            if tick < tree.tick:
                                self.assertTrue(felt or died or other in closing)
                                ends += 1
        self.assertGreater(ends, 5)

    def test_a_monitor_leads_to_one_message(self):
        # 14.5, unless it is taken away or its owner ends first.
        downs = 0
        for tree in trees():
            watching, expected, got = [], [], []
            for _, _, _, word, data in log_of(tree):
                if word == "watched":
                    watching.append(data)
                if word == "unwatched":
                    watching.remove(data)
                if word == "ended":
                    expected.extend((owner, other) for owner, other in watching if other == data[0] != owner)
                    watching = [pair for pair in watching if data[0] not in pair]
                if word == "sent" and data[1] == "down" and data[5] > 0:
                    got.append((data[3], data[5]))
            if tree.next_tick is None or tree.next_tick > tree.tick:
                self.assertEqual(sorted(got), sorted(expected))
                downs += len(got)
        self.assertGreater(downs, 20)


if __name__ == "__main__":
    unittest.main()
