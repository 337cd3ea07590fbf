"""watchtree.messages: what a tree tells of its messages, workers, and who waits for whom (13.3 to 13.11, 14)."""

import unittest

from tests.histories import do, seeded
from tests.samples import NO_INTEGERS, NO_STRINGS
from tests.telling import TreeCase, log_of, ran, root, row, worker
from watchtree.errors import NoMessage, NoPlace, NotWorker
from watchtree.messages import (answer_of, box, counts, does_trap, hangs_on, is_busy, links_of, mode_of, question_of,
                                rings, status_of, timers_of, watched_by)
from watchtree.plans import SupervisorPlan, WorkerPlan, names
from watchtree.snapshots import restored, snapshot
from watchtree.trees import Tree

QUERIES = (box, mode_of, is_busy, does_trap, links_of, watched_by, timers_of)
WITHOUT_A_PROCESS = ((), None, None, None, (), (), ())
NO_PLACES = NO_STRINGS + ("", "no", "A", "a ", "own", "sender", "about", ["a"], ("a",))


def told_of(tree, place):
    """What all queries of a worker answer."""
    return tuple(query(tree, place) for query in QUERIES)


class Statuses(TreeCase):
    def test_the_life_of_a_message(self):
        tree = ran(root(worker("a", row("go", work=3))), 1)
        number = tree.send("a", "go")
        other = tree.send("a", "go")
        self.assertEqual((status_of(tree, number), counts(tree)), ("sent", (2, 0, 0, 0)))
        tree.run(1)
        self.assertEqual((status_of(tree, number), counts(tree)), ("sent", (2, 0, 0, 0)))
        tree.run(2)
        self.assertEqual((status_of(tree, number), status_of(tree, other), counts(tree)),
                         ("handled", "waiting", (0, 1, 1, 0)))
        tree.fail("a")
        self.assertEqual((status_of(tree, number), status_of(tree, other), counts(tree)),
                         ("handled", "dropped", (0, 0, 1, 1)))

    def test_a_message_to_a_supervisor_and_to_nobody(self):
        tree = ran(root(WorkerPlan("a", restart="temporary")), 1)
        tree.fail("a")
        sent = [tree.send("root", "go"), tree.send("a", "go"), tree.ask("root", "go")]
        self.assertEqual([status_of(tree, number) for number in sent], ["sent"] * 3)
        tree.run(5)
        self.assertEqual([status_of(tree, number) for number in sent], ["dropped"] * 3)
        self.assertEqual((question_of(tree, sent[2]), counts(tree)), ("returned", (0, 0, 0, 3)))

    def test_messages_of_all_sorts_are_counted(self):
        # A question of a is returned, one answered; a timer, a link with nobody, a monitor of nobody, a refused add.
        deeds = (("ask", "root", "q", 1), ("ask", "b", "q", 2), ("later", 1, "x", 3), ("trap", True), ("link", "root"),
                 ("monitor", "c"), ("add", "root", WorkerPlan("b")))
        plan = root(worker("a", row("start", *deeds)), worker("b", row("q", ("reply", 5))),
                    WorkerPlan("c", restart="temporary", opening=1))
        tree = ran(plan, 30)
        sorts = sorted(data[1] for _, _, _, word, data in log_of(tree) if word == "sent")
        self.assertEqual(sorts, ["answer", "ask", "ask", "back", "down", "ended", "later", "told"])
        self.assertEqual(counts(tree), (0, 6, 1, 1))
        self.assertEqual(sorted(word for word, _ in box(tree, "a")), ["answer", "back", "down", "ended", "told", "x"])

    def test_a_tree_without_messages(self):
        self.assertEqual(counts(Tree(root())), (0, 0, 0, 0))

    def test_messages_behind_the_last_tick_stay_sent(self):
        tree = ran(root(WorkerPlan("a")), 10 ** 12)
        number = tree.ask("a", "go")
        tree.run(10 ** 12)
        self.assertEqual((status_of(tree, number), question_of(tree, number), counts(tree)),
                         ("sent", "open", (1, 0, 0, 0)))

    def test_no_message(self):
        tree = ran(root(WorkerPlan("a")), 1)
        tree.send("a", "go")
        asked = tree.ask("a", "go")
        for value in NO_INTEGERS + (0, -1, 3, 10 ** 30, "1", (1,), [1]):
            for call in (status_of, question_of, answer_of):
                self.check_raises(NoMessage(value), call, tree, value)
        self.assertEqual([status_of(tree, number) for number in (1, asked)], ["sent", "sent"])

    def test_calls_by_name(self):
        tree = ran(root(WorkerPlan("a")), 1)
        tree.ask("a", "go")
        self.assertEqual((status_of(number=1, tree=tree), question_of(number=1, tree=tree),
                          answer_of(number=1, tree=tree), counts(tree=tree), rings(tree=tree)),
                         ("sent", "open", None, (1, 0, 0, 0), ()))
        for query, told in zip(QUERIES + (hangs_on,), ((), "first", False, False, (), (), (), None)):
            self.assertEqual(query(place="a", tree=tree), told)


class Questions(TreeCase):
    def test_an_answer_to_the_caller(self):
        tree = ran(root(worker("a", row("q", ("reply", ("plus", 3)), work=2))), 1)
        number = tree.ask("a", "q", 4)
        self.assertEqual((question_of(tree, number), answer_of(tree, number)), ("open", None))
        tree.run(2)
        self.assertEqual((question_of(tree, number), answer_of(tree, number)), ("answered", 7))
        tree.fail("a")
        tree.run(9)
        self.assertEqual((question_of(tree, number), answer_of(tree, number)), ("answered", 7))
        self.assertEqual(counts(tree), (0, 0, 1, 0))

    def test_an_answer_of_0(self):
        tree = ran(root(worker("a", row("q", ("reply", 0)))), 1)
        number = tree.ask("a", "q", 4)
        tree.run(2)
        self.assertEqual(answer_of(tree, number), 0)

    def test_a_question_that_is_taken_and_not_answered(self):
        tree = ran(root(worker("a", row("q"))), 1)
        number = tree.ask("a", "q", 4)
        tree.run(9)
        self.assertEqual((status_of(tree, number), question_of(tree, number)), ("handled", "open"))
        tree.fail("a")
        self.assertEqual((status_of(tree, number), question_of(tree, number), answer_of(tree, number)),
                         ("handled", "returned", None))

    def test_a_question_that_waits_and_is_dropped(self):
        tree = ran(root(WorkerPlan("a")), 1)
        number = tree.ask("a", "q", 4)
        tree.run(9)
        self.assertEqual((status_of(tree, number), question_of(tree, number)), ("waiting", "open"))
        tree.fail("a")
        self.assertEqual((status_of(tree, number), question_of(tree, number), answer_of(tree, number)),
                         ("dropped", "returned", None))

    def test_other_sorts_are_no_questions(self):
        deeds = (("ask", "b", "q", 5), ("send", "b", "x", 1), ("later", 1, "y", 2))
        tree = ran(root(worker("a", row("start", *deeds)), worker("b", row("q", ("reply", 1)))), 9)
        sorts = {data[0]: data[1] for _, _, _, word, data in log_of(tree) if word == "sent"}
        self.assertEqual(sorted(sorts.values()), ["answer", "ask", "later", "send"])
        for number, sort in sorts.items():
            self.assertEqual(status_of(tree, number) in ("handled", "waiting"), True)
            if sort == "ask":
                self.assertEqual(question_of(tree, number), "answered")
            else:
                self.check_raises(NoMessage(number), question_of, tree, number)
            # The question of a worker has no answer that the caller could ask for.
            self.check_raises(NoMessage(number), answer_of, tree, number)

    def test_a_message_of_the_caller_that_is_no_question(self):
        tree = ran(root(WorkerPlan("a")), 1)
        number = tree.send("a", "q", 4)
        self.check_raises(NoMessage(number), answer_of, tree, number)
        self.check_raises(NoMessage(number), question_of, tree, number)


class Workers(TreeCase):
    def test_no_place_and_no_worker(self):
        tree = ran(root(SupervisorPlan("s", WorkerPlan("a"))), 1)
        for query in QUERIES:
            for value in NO_PLACES + ("x",):
                self.check_raises(NoPlace(value), query, tree, value)
            for value in ("root", "s"):
                self.check_raises(NotWorker(value), query, tree, value)
        for value in NO_PLACES:
            self.check_raises(NoPlace(value), hangs_on, tree, value)
        self.assertEqual([hangs_on(tree, name) for name in ("root", "s", "a")], [None] * 3)

    def test_without_a_process_that_has_not_ended(self):
        tree = Tree(root(worker("a", row("start", ("trap", True), ("mode", "second"))), most=9))
        self.assertEqual((told_of(tree, "a"), hangs_on(tree, "a")), (WITHOUT_A_PROCESS, None))
        tree.run(3)
        self.assertNotEqual(told_of(tree, "a"), WITHOUT_A_PROCESS)
        tree.fail("a")
        self.assertEqual((told_of(tree, "a"), hangs_on(tree, "a")), (WITHOUT_A_PROCESS, None))
        tree.stop()
        tree.run(9)
        self.assertTrue(tree.is_over)
        self.assertEqual((told_of(tree, "a"), rings(tree)), (WITHOUT_A_PROCESS, ()))

    def test_an_added_place(self):
        tree = ran(root(), 1)
        tree.add("root", worker("x", row("start", ("mode", "second"))))
        self.check_raises(NoPlace("x"), mode_of, tree, "x")
        tree.run(2)
        self.assertEqual(mode_of(tree, "x"), "second")
        tree.take_out("x")
        tree.run(3)
        self.check_raises(NoPlace("x"), mode_of, tree, "x")
        self.check_raises(NoPlace("x"), hangs_on, tree, "x")

    def test_box(self):
        tree = ran(root(worker("a", row("go", work=5))), 1)
        for word, value in (("x", 1), ("go", 2), ("x", 3), ("go", -4), ("y", 5)):
            tree.send("a", word, value)
        self.assertEqual(box(tree, "a"), ())
        tree.run(2)
        self.assertEqual(box(tree, "a"), (("x", 1), ("x", 3), ("go", -4), ("y", 5)))
        tree.run(9)
        self.assertEqual(box(tree, "a"), (("x", 1), ("x", 3), ("y", 5)))

    def test_box_while_opening_and_closing(self):
        tree = ran(root(WorkerPlan("a", opening=4, closing=4)), 1)
        tree.send("a", "go", 1)
        tree.run(3)
        self.assertEqual((tree.state_of("a"), box(tree, "a")), ("opening", (("go", 1),)))
        tree.run(4)
        tree.stop()
        tree.send("a", "go", 2)
        tree.run(6)
        self.assertEqual((tree.state_of("a"), box(tree, "a")), ("closing", (("go", 1), ("go", 2))))
        tree.run(8)
        self.assertEqual(box(tree, "a"), ())

    def test_modes(self):
        rows = (row("go", ("mode", "second")), row("go", ("mode", "third"), mode="second"))
        tree = ran(root(worker("a", *rows), WorkerPlan("b", opening=9), most=9), 1)
        self.assertEqual((mode_of(tree, "a"), mode_of(tree, "b")), ("first", "first"))
        for expected in ("second", "third", "third"):
            tree.send("a", "go")
            tree.run(tree.tick + 1)
            self.assertEqual(mode_of(tree, "a"), expected)
        tree.run(20)
        tree.fail("a")
        tree.run(20)
        self.assertEqual(mode_of(tree, "a"), "first")

    def test_busy(self):
        tree = ran(root(WorkerPlan("b"), worker("a", row("start", work=3), row("go", work=2)),
                        WorkerPlan("c", opening=2)), 1)
        self.assertEqual([is_busy(tree, name) for name in "abc"], [True, False, False])
        tree.run(2)
        self.assertEqual(is_busy(tree, "a"), True)
        tree.send("a", "go")
        tree.run(3)
        # The message has arrived while a was still busy, or just behind the end of its work: it is taken at once.
        self.assertEqual(is_busy(tree, "a"), True)
        tree.run(5)
        self.assertEqual(is_busy(tree, "a"), False)

    def test_a_closing_worker_has_given_up_its_work(self):
        rows = (row("start", ("mode", "second"), ("trap", True), work=9),)
        tree = ran(root(WorkerPlan("a", closing=5, script=rows)), 1)
        self.assertEqual(is_busy(tree, "a"), True)
        tree.stop()
        tree.run(1)
        self.assertEqual((tree.state_of("a"), is_busy(tree, "a"), mode_of(tree, "a"), does_trap(tree, "a")),
                         ("closing", False, "second", True))

    def test_traps(self):
        rows = (row("start", ("trap", True)), row("go", ("trap", False)))
        tree = ran(root(worker("a", *rows), WorkerPlan("b")), 2)
        self.assertEqual((does_trap(tree, "a"), does_trap(tree, "b")), (True, False))
        tree.send("a", "go")
        tree.run(3)
        self.assertIs(does_trap(tree, "a"), False)

    def test_links_in_the_order_in_which_they_were_made(self):
        plan = root(WorkerPlan("b"), WorkerPlan("c"), worker("d", row("start", ("link", "c"))),
                    worker("a", row("start", ("link", "d"), ("link", "b")), row("go", ("unlink", "d"), ("link", "c"))),
                    most=9)
        tree = ran(plan, 3)
        self.assertEqual([links_of(tree, name) for name in "abcd"], [(4, 2), (5,), (4,), (3, 5)])
        tree.send("a", "go")
        tree.run(4)
        self.assertEqual([links_of(tree, name) for name in "abcd"], [(2, 3), (5,), (4, 5), (3,)])
        tree.fail("b", "normal")
        self.assertEqual([links_of(tree, name) for name in "abcd"], [(3,), (), (4, 5), (3,)])

    def test_watched_in_the_order_in_which_this_was_done(self):
        deeds = (("monitor", "s"), ("monitor", "b"), ("monitor", "own"), ("monitor", "b"))
        watches = worker("a", row("start", *deeds), row("go", ("unmonitor", "s")))
        plan = root(SupervisorPlan("s", WorkerPlan("b")), watches)
        tree = ran(plan, 2)
        self.assertEqual((watched_by(tree, "a"), watched_by(tree, "b")), ((2, 3, 4), ()))
        tree.send("a", "go")
        tree.run(3)
        self.assertEqual(watched_by(tree, "a"), (3, 4))
        tree.fail("b")
        self.assertEqual(watched_by(tree, "a"), (4,))
        tree.run(9)
        self.assertEqual((watched_by(tree, "a"), tree.number_of("b")), ((4,), 5))

    def test_timers_by_ticks_then_as_they_were_made(self):
        deeds = (("later", 5, "z", 1), ("later", 3, "y", 2), ("later", 5, "a", 3), ("later", 3, "y", -2),
                 ("later", 1, "x", 4))
        tree = ran(root(WorkerPlan("b", opening=2), worker("a", row("start", *deeds), row("go", ("cancel", "z")))), 1)
        self.assertEqual(timers_of(tree, "a"), ())
        tree.run(2)
        # The message of the timer for the tick 3 is sent by now.
        self.assertEqual(timers_of(tree, "a"), ((5, "y", 2), (5, "y", -2), (7, "z", 1), (7, "a", 3)))
        tree.run(3)
        self.assertEqual((timers_of(tree, "a"), box(tree, "a")),
                         (((5, "y", 2), (5, "y", -2), (7, "z", 1), (7, "a", 3)), (("x", 4),)))
        tree.send("a", "go")
        tree.run(4)
        self.assertEqual(timers_of(tree, "a"), ((7, "a", 3),))
        tree.run(7)
        self.assertEqual((timers_of(tree, "a"), timers_of(tree, "b")), ((), ()))

    def test_timers_go_with_their_process(self):
        tree = ran(root(worker("a", row("start", ("later", 9, "x", 1)))), 1)
        self.assertEqual(timers_of(tree, "a"), ((9, "x", 1),))
        tree.fail("a")
        self.assertEqual(timers_of(tree, "a"), ())
        tree.run(1)
        self.assertEqual(timers_of(tree, "a"), ((10, "x", 1),))

    def test_queries_change_nothing(self):
        tree = ran(root(worker("a", row("start", ("ask", "b", "q", 1), ("later", 9, "x", 1)), row("go")),
                        WorkerPlan("b")), 2)
        tree.send("a", "go")
        before = (log_of(tree), tree.tick, tree.next_tick)
        for _ in range(2):
            told_of(tree, "a")
            counts(tree)
            hangs_on(tree, "a")
            rings(tree)
        self.assertEqual((log_of(tree), tree.tick, tree.next_tick), before)


ANSWERED = (row("answer", mode="stuck"), row("back", mode="stuck"))


def asking(name, *others, rows=ANSWERED, **settings):
    """A worker that asks others at its start, and then takes answers and returns alone."""
    deeds = tuple(("ask", other, "q", 0) for other in others)
    return WorkerPlan(name, script=(row("start", *deeds, ("mode", "stuck")),) + tuple(rows), **settings)


class Hanging(TreeCase):
    def check(self, plan, expected, tick=9):
        """The places on which a and b hang, and the rings, at a tick."""
        tree = ran(plan, tick)
        self.assertEqual((hangs_on(tree, "a"), hangs_on(tree, "b"), rings(tree)), expected)
        return tree

    def test_one_place_on_another(self):
        self.check(root(asking("a", "b"), WorkerPlan("b")), ("b", None, ()))

    def test_a_ring_of_two(self):
        self.check(root(asking("a", "b"), asking("b", "a")), ("b", "a", (("a", "b"),)))

    def test_modes_with_some_rows_or_none(self):
        for rows in ((), ANSWERED[:1], ANSWERED[1:]):
            self.check(root(asking("a", "b", rows=rows), WorkerPlan("b")), ("b", None, ()))
        for word in ("q", "start", "down", "ended", "told"):
            self.check(root(asking("a", "b", rows=ANSWERED + (row(word, mode="stuck"),)), WorkerPlan("b")),
                       (None, None, ()))

    def test_rows_of_other_modes_do_not_matter(self):
        self.check(root(asking("a", "b", rows=ANSWERED + (row("q"), row("q", mode="other"))), WorkerPlan("b")),
                   ("b", None, ()))

    def test_a_busy_worker_does_not_hang(self):
        script = (("first", "start", 5, (("ask", "b", "q", 0), ("mode", "stuck"))),)
        plan = root(WorkerPlan("a", script=script), WorkerPlan("b"))
        self.check(plan, (None, None, ()), 4)
        self.check(plan, ("b", None, ()), 5)

    def test_a_closing_worker_does_not_hang(self):
        tree = self.check(root(asking("a", "b", closing=5), WorkerPlan("b")), ("b", None, ()))
        tree.take_out("a")
        tree.run(tree.tick)
        self.assertEqual((tree.state_of("a"), hangs_on(tree, "a")), ("closing", None))

    def test_a_worker_that_has_not_asked(self):
        self.check(root(asking("a"), asking("b")), (None, None, ()))

    def test_a_question_on_its_way_beside_one_that_waits(self):
        # The timer of a lets it ask b a second time; the work is over in the tick in which the question arrives.
        rows = (row("start", ("ask", "b", "q", 0)), row("go", ("ask", "b", "q", 0), ("mode", "stuck")))
        tree = ran(root(worker("a", *rows), WorkerPlan("b")), 5)
        self.assertEqual(hangs_on(tree, "a"), None)
        tree.send("a", "go")
        tree.run(6)
        self.assertEqual((counts(tree)[0], is_busy(tree, "a"), hangs_on(tree, "a")), (1, True, None))
        tree.run(7)
        self.assertEqual((counts(tree)[0], hangs_on(tree, "a"), len(box(tree, "b"))), (0, "b", 2))

    def test_a_question_that_was_taken(self):
        self.check(root(asking("a", "b"), worker("b", row("q"))), ("b", None, ()))
        # It was taken by a process that then asks a itself.
        two = worker("b", row("q", ("ask", "a", "r", 0), ("mode", "stuck")), *ANSWERED)
        self.check(root(asking("a", "b"), two), ("b", "a", (("a", "b"),)))

    def test_a_question_that_was_answered_or_returned(self):
        self.check(root(asking("a", "b"), worker("b", row("q", ("reply", 1)))), (None, None, ()))
        self.check(root(asking("a", "root"), WorkerPlan("b")), (None, None, ()))

    def test_an_answer_in_the_box_that_does_not_fit(self):
        # It does not fit, so the other question is what a waits for.
        plan = root(asking("a", "b", "c", rows=ANSWERED[1:]), worker("b", row("q", ("reply", 1))), WorkerPlan("c"))
        tree = self.check(plan, ("c", None, ()))
        self.assertEqual(box(tree, "a"), (("answer", 1),))

    def test_an_answer_that_fits_waits_no_longer_than_the_work(self):
        rows = (row("answer", mode="stuck", work=3), row("back", mode="stuck", work=3))
        plan = root(asking("a", "b", "c", rows=rows), worker("b", row("q", ("reply", 1))), WorkerPlan("c"))
        tree = Tree(plan)
        seen = []
        for tick in range(8):
            tree.run(tick)
            seen.append((is_busy(tree, "a"), hangs_on(tree, "a")))
        # The answer is on its way at the tick 1, in which a is idle and c has got its question.
        self.assertEqual(seen, [(True, None), (False, None), (True, None), (True, None), (True, None), (False, "c"),
                                (False, "c"), (False, "c")])

    def test_a_return_on_its_way(self):
        # b ends and returns the question: it is on its way to a until the next tick.
        plan = root(asking("a", "b", "c", rows=()), WorkerPlan("b"), WorkerPlan("c"), most=9)
        tree = ran(plan, 5)
        self.assertEqual(hangs_on(tree, "a"), None)
        tree.fail("b")
        tree.run(5)
        self.assertEqual((counts(tree)[0], hangs_on(tree, "a")), (1, None))
        tree.run(6)
        self.assertEqual((box(tree, "a"), hangs_on(tree, "a")), ((("back", 0),), "c"))

    def test_other_messages_on_their_way_and_in_the_box(self):
        tree = self.check(root(asking("a", "b"), asking("b", "a")), ("b", "a", (("a", "b"),)))
        tree.send("a", "q")
        tree.ask("b", "q")
        self.assertEqual((rings(tree), counts(tree)[0]), ((("a", "b"),), 2))
        tree.run(tree.tick + 5)
        self.assertEqual((rings(tree), len(box(tree, "a")), len(box(tree, "b"))), ((("a", "b"),), 2, 2))

    def test_answers_to_others_on_their_way(self):
        plan = root(asking("a", "b"), asking("b", "a"), worker("c", row("go", ("ask", "d", "q", 0))),
                    worker("d", row("q", ("reply", 1))))
        tree = ran(plan, 5)
        tree.send("c", "go")
        tree.run(7)
        self.assertEqual((counts(tree)[0], rings(tree)), (1, (("a", "b"),)))

    def test_a_message_that_fits_in_the_box(self):
        # a becomes idle in the mode stuck in the tick in which its answer waits: it takes it at once.
        rows = (row("start", ("ask", "b", "q", 0), ("ask", "c", "q", 0), ("mode", "stuck"), work=9),
                row("answer", mode="stuck"))
        tree = Tree(root(worker("a", *rows), worker("b", row("q", ("reply", 1))), WorkerPlan("c")))
        seen = []
        for tick in range(12):
            tree.run(tick)
            seen.append((len(box(tree, "a")), is_busy(tree, "a"), hangs_on(tree, "a")))
        self.assertEqual(seen[8:], [(1, True, None), (0, True, None), (0, False, "c"), (0, False, "c")])

    def test_questions_to_several_places(self):
        plan = root(asking("a", "b", "c"), asking("b", "a", "a"), WorkerPlan("c"))
        self.check(plan, (None, "a", ()))
        self.check(root(asking("a", "b", "b"), asking("b", "a", "a", "a")), ("b", "a", (("a", "b"),)))

    def test_one_question_taken_and_one_waiting_at_one_place(self):
        self.check(root(asking("a", "b", "b"), worker("b", row("q", ("mode", "busy")))), ("b", None, ()))
        self.check(root(asking("a", "b", "c"), worker("b", row("q")), worker("c", row("q"))), (None, None, ()))

    def test_questions_of_an_earlier_process_do_not_count(self):
        # c keeps the question of the first process of a, which the second one has not asked.
        rows = (row("go", ("ask", "c", "q", 0), ("mode", "stuck")), row("mute", ("mode", "stuck")))
        tree = ran(root(worker("a", *rows), WorkerPlan("c"), most=9), 5)
        for word, expected in (("go", "c"), ("mute", None), ("go", "c")):
            tree.send("a", word)
            tree.run(tree.tick + 5)
            self.assertEqual((mode_of(tree, "a"), hangs_on(tree, "a")), ("stuck", expected))
            tree.fail("a")
        self.assertEqual(len(box(tree, "c")), 2)

    def test_questions_of_the_caller_do_not_count(self):
        tree = ran(root(asking("a"), WorkerPlan("b")), 5)
        tree.ask("b", "q")
        tree.ask("a", "q")
        tree.run(9)
        self.assertEqual((hangs_on(tree, "a"), hangs_on(tree, "b")), (None, None))

    def test_a_place_that_is_opening_and_keeps_the_question(self):
        self.check(root(asking("a", "b"), WorkerPlan("b", opening=50)), ("b", None, ()))

    def test_a_place_that_is_closing_and_keeps_the_question(self):
        tree = self.check(root(asking("a", "b"), asking("b", "a", closing=9)), ("b", "a", (("a", "b"),)))
        tree.take_out("b")
        tree.run(tree.tick)
        self.assertEqual((hangs_on(tree, "a"), hangs_on(tree, "b"), rings(tree)), ("b", None, ()))

    def test_a_place_that_asks_itself_hangs_on_none(self):
        for others in (("own",), ("a",), ("own", "own"), ("a", "a"), ("a", "own")):
            for rows in ((), ANSWERED[:1], ANSWERED[1:], ANSWERED):
                tree = self.check(root(asking("a", *others, rows=rows), WorkerPlan("b")), (None, None, ()))
                self.assertEqual((tree.state_of("a"), is_busy(tree, "a"), counts(tree)[0]), ("running", False, 0))
                self.assertEqual(box(tree, "a"), (("q", 0),) * len(others))
                self.assertEqual({question_of(tree, at + 1) for at in range(len(others))}, {"open"})

    def test_a_place_that_asks_itself_and_another_one_hangs_on_none(self):
        for others in (("own", "b"), ("b", "own"), ("a", "b"), ("b", "b", "a"), ("own", "own", "b")):
            self.check(root(asking("a", *others), WorkerPlan("b")), (None, None, ()))
            # b hangs on a, which does not hang on b.
            self.check(root(asking("a", *others), asking("b", "a")), (None, "a", ()))

    def test_a_place_that_asks_one_which_asks_itself_hangs_on_it(self):
        self.check(root(asking("a", "own"), asking("b", "a")), (None, "a", ()))
        self.check(root(asking("a", "b", "b"), asking("b", "b")), ("b", None, ()))
        tree = self.check(root(asking("a", "b"), asking("b", "c"), asking("c", "own")), ("b", "c", ()))
        self.assertEqual(hangs_on(tree, "c"), None)

    def test_a_question_to_itself_that_it_took(self):
        for other in ("own", "a"):
            rows = (row("start", ("ask", other, "q", 0)), row("q", ("mode", "stuck")))
            tree = self.check(root(worker("a", *rows), WorkerPlan("b")), (None, None, ()))
            self.assertEqual((status_of(tree, 1), question_of(tree, 1), mode_of(tree, "a")),
                             ("handled", "open", "stuck"))
            # It took one of both, and the other one waits in its box, or in that of another place.
            for second in (other, "b"):
                rows = (row("start", ("ask", other, "q", 0), ("ask", second, "r", 0)), row("q", ("mode", "stuck")))
                self.check(root(worker("a", *rows), WorkerPlan("b")), (None, None, ()))

    def test_a_question_to_itself_that_was_answered_does_not_count(self):
        rows = (row("start", ("ask", "own", "q", 0), ("ask", "b", "q", 0)), row("q", ("reply", 1)),
                row("answer", ("mode", "stuck")))
        tree = self.check(root(worker("a", *rows, *ANSWERED), WorkerPlan("b")), ("b", None, ()))
        self.assertEqual((question_of(tree, 1), question_of(tree, 2)), ("answered", "open"))

    def test_a_place_that_asks_itself_in_a_restored_tree_and_after_a_mend(self):
        plan = root(asking("a", "own"), asking("b", "a"), most=9)
        tree = ran(plan, 9)
        other = restored(plan, snapshot(tree))
        self.assertEqual((hangs_on(other, "a"), hangs_on(other, "b"), rings(other)), (None, "a", ()))
        tree.fail("a")
        tree.run(20)
        self.assertEqual((tree.starts_of("a"), box(tree, "a")), (2, (("q", 0),)))
        self.assertEqual((hangs_on(tree, "a"), hangs_on(tree, "b"), rings(tree)), (None, None, ()))

    def test_an_added_place_that_asks_itself(self):
        tree = ran(root(asking("b", "a")), 9)
        tree.add("root", asking("a", "own"))
        tree.add("root", asking("c", "a"))
        tree.run(20)
        self.assertEqual([hangs_on(tree, name) for name in "abc"], [None, None, "a"])
        self.assertEqual(rings(tree), ())


class Rings(TreeCase):
    def test_they_are_ascending_and_begin_with_their_least_places(self):
        pairs = (("m", "n"), ("c", "a"), ("z", "b"), ("b", "y"), ("d", "c"), ("y", "z"), ("n", "m"), ("a", "d"))
        tree = ran(root(*[asking(name, other) for name, other in pairs]), 9)
        self.assertEqual(rings(tree), (("a", "d", "c"), ("b", "y", "z"), ("m", "n")))

    def test_places_that_hang_on_a_ring_are_not_in_it(self):
        pairs = (("a", "b"), ("b", "c"), ("c", "b"), ("d", "a"), ("e", "f"), ("f", "g"))
        tree = ran(root(*[asking(name, other) for name, other in pairs], WorkerPlan("g")), 9)
        self.assertEqual(rings(tree), (("b", "c"),))
        self.assertEqual([hangs_on(tree, name) for name in "abcdefg"], ["b", "c", "b", "a", "f", "g", None])

    def test_added_places(self):
        tree = ran(root(asking("b", "c"), WorkerPlan("c")), 5)
        tree.add("root", asking("a", "b"))
        tree.run(9)
        self.assertEqual((hangs_on(tree, "a"), rings(tree)), ("b", ()))
        tree.take_out("c")
        tree.run(12)
        self.assertEqual((hangs_on(tree, "a"), hangs_on(tree, "b")), ("b", None))
        tree.add("root", worker("y", row("q", ("ask", "sender", "q", 0), ("mode", "stuck"))))
        tree.add("root", asking("x", "y"))
        tree.run(20)
        self.assertEqual(rings(tree), (("x", "y"),))

    def test_names_of_more_than_one_sign(self):
        tree = ran(root(asking("b2", "b10"), asking("b10", "b_"), asking("b_", "b2")), 9)
        self.assertEqual(rings(tree), (("b10", "b_", "b2"),))

    def test_the_end_of_a_process_breaks_a_ring(self):
        tree = ran(root(asking("a", "b"), asking("b", "a"), most=9), 9)
        tree.fail("a")
        self.assertEqual(rings(tree), ())

    def trees(self):
        """Trees by chance in which workers ask one another and get stuck, or answer."""
        for seed in range(600):
            chance = seeded(seed)
            told = [f"p{at}" for at in range(chance.randint(2, 6))]
            workers = []
            for name in told:
                others = [chance.choice(told) for _ in range(chance.choice((1, 1, 1, 2)))]
                if chance.random() < 0.8:
                    workers.append(asking(name, *others, rows=ANSWERED[:chance.randint(0, 2)],
                                          opening=chance.randint(0, 2)))
                else:
                    workers.append(worker(name, row("q", ("reply", 1), work=chance.randint(1, 4)), row("start")))
            yield chance, Tree(root(*workers, most=9, span=1))

    def test_no_place_of_a_ring_takes_a_message(self):
        # 13.11: as long as no process of it ends, whatever comes from outside.
        found = 0
        for chance, tree in self.trees():
            tree.run(chance.randint(3, 8))
            for _ in range(30):
                before, since = rings(tree), tree.entries_count
                numbers = {name: tree.number_of(name) for ring in before for name in ring}
                if tree.is_over:
                    break
                place = chance.choice(names(tree.plan))
                do(tree, *chance.choice((("send", (place, "q")), ("ask", (place, "q")), ("send", (place, "go")),
                                         ("fail", (place,)), ("run", (tree.tick + 1,)))))
                log = log_of(tree)[since:]
                ended = {data[0] for _, _, _, word, data in log if word == "ended"}
                for ring in before:
                    if not ended.intersection(numbers[name] for name in ring):
                        found += 1
                        self.assertIn(ring, rings(tree))
                        taken = [data[1] for _, _, _, word, data in log if word == "taken"]
                        self.assertFalse(set(taken).intersection(numbers[name] for name in ring))
        self.assertGreater(found, 1000)

    def test_rings_are_made_of_places_that_hang_on_one_another(self):
        sizes = set()
        for _, tree in self.trees():
            tree.run(12)
            found = rings(tree)
            self.assertEqual(list(found), sorted(found))
            for ring in found:
                self.assertEqual((len(set(ring)), ring[0]), (len(ring), min(ring)))
                for one, other in zip(ring, ring[1:] + ring[:1]):
                    self.assertEqual(hangs_on(tree, one), other)
                sizes.add(len(ring))
            inside = {name for ring in found for name in ring}
            for name in set(tree.running) - inside:
                # Whoever is in no ring does not come back to its own place.
                way = [name]
                while hangs_on(tree, way[-1]) is not None and hangs_on(tree, way[-1]) not in way:
                    way.append(hangs_on(tree, way[-1]))
                self.assertNotEqual(hangs_on(tree, way[-1]), name)
        self.assertGreaterEqual(sizes, {2, 3})
        self.assertEqual(min(sizes), 2)

    def test_no_place_hangs_on_itself(self):
        kept = 0
        for _, tree in self.trees():
            for tick in range(12):
                tree.run(tick)
                for name in tree.running:
                    self.assertNotEqual(hangs_on(tree, name), name)
            asked = {}
            for _, _, _, word, data in log_of(tree):
                if word == "sent" and data[1] == "ask":
                    asked.setdefault(data[2], set()).add(data[3])
            kept += sum(asked.get(tree.number_of(name)) == {name} for name in tree.running)
        self.assertGreater(kept, 300)


if __name__ == "__main__":
    unittest.main()
