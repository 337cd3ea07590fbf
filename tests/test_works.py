"""watchtree.trees: workers with scripts, their messages, questions and answers (13.3 to 13.9)."""

import unittest

from tests.telling import TreeCase, lines_with, ran, root, row, told, worker
from watchtree.plans import SupervisorPlan, WorkerPlan

LARGEST = 10 ** 12


def statuses(tree):
    """The status of each message, by its number."""
    return dict(tree.world.statuses)


class Work(TreeCase):
    def test_the_row_for_start_is_done_behind_the_report(self):
        # b is started by the report of a, in front of which a has sent its message.
        tree = ran(root(worker("a", row("start", ("note", "up"), ("send", "b", "hey", 7), work=3)), WorkerPlan("b")), 9)
        self.check_log(tree, """
            0 input start ()
            0 started 1 root 0
            0 started 2 a 1
            0 running 2
            0 noted 2 up
            0 sent 1 send 2 b hey 7
            0 started 3 b 1
            0 running 3
            0 running 1
            1 arrived 1 3
            3 idle 2
            """)

    def test_only_the_row_of_the_first_mode_is_done_at_the_start(self):
        tree = ran(root(worker("a", row("start", ("note", "no"), mode="second"), row("go", ("note", "no")))), 9)
        self.check_log(tree, """
            0 input start ()
            0 started 1 root 0
            0 started 2 a 1
            0 running 2
            0 running 1
            """)
        self.assertTrue(tree.is_quiet)

    def test_the_start_has_the_value_0_and_nobody_who_sent_it(self):
        rows = row("start", ("send", "sender", "hey", 1), ("send", "about", "hey", 2), ("reply", 3),
                   ("send", "own", "hey", ("plus", 4)))
        tree = ran(root(worker("a", rows)), 9)
        self.assertEqual(lines_with(tree, "sent", "answered"), ["0 sent 1 send 2 a hey 4"])

    def test_each_process_begins_anew(self):
        rows = (row("start", ("note", "up")), row("go", ("mode", "second"), ("trap", True), ("end", "failed")),
                row("go", ("note", "no"), mode="second"))
        tree = ran(root(worker("a", *rows), most=9), 5)
        for _ in range(2):
            tree.send("a", "go", 8)
            tree.run(tree.tick + 5)
        self.assertEqual(lines_with(tree, "mode", "noted", "taken"), [
            "0 noted 2 up", "6 taken 1 2", "6 mode 2 second", "6 noted 3 up", "11 taken 2 3", "11 mode 3 second",
            "11 noted 4 up"])

    def test_work_is_over_so_many_ticks_later(self):
        for work in (1, 2, 1000):
            tree = ran(root(worker("a", row("go", work=work))), 4)
            tree.send("a", "go")
            tree.run(2000)
            self.assertEqual(lines_with(tree, "taken", "idle"), ["5 taken 1 2", f"{5 + work} idle 2"])

    def test_a_worker_that_is_stopped_gives_up_its_work(self):
        tree = ran(root(worker("a", row("start", work=3), row("go"), closing=9)), 1)
        tree.send("a", "go")
        since = tree.entries_count
        tree.stop()
        tree.run(20)
        self.check_log(tree, """
            1 input stop ()
            1 closing 1
            1 closing 2
            2 arrived 1 2
            10 ended 2 shutdown
            10 dropped 1
            10 ended 1 shutdown
            """, since)

    def test_a_worker_that_ends_in_its_deeds_is_not_busy(self):
        tree = ran(root(worker("a", row("start", ("note", "x"), ("end", "normal"), ("note", "y"), work=50),
                                restart="transient")), 0)
        self.assertEqual((lines_with(tree, "noted", "ended"), tree.next_tick, tree.is_quiet),
                         (["0 noted 2 x", "0 ended 2 normal"], None, True))

    def test_deeds_are_done_in_their_order_in_one_step(self):
        deeds = (("note", "x"), ("mode", "second"), ("note", "y"), ("send", "own", "hey", 0), ("trap", False),
                 ("mode", "second"), ("trap", False), ("note", "z"))
        tree = ran(root(worker("a", row("start", *deeds))))
        self.assertEqual(told(tree)[4:12], ["0 noted 2 x", "0 mode 2 second", "0 noted 2 y", "0 sent 1 send 2 a hey 0",
                                            "0 trap 2 False", "0 mode 2 second", "0 trap 2 False", "0 noted 2 z"])


class Taking(TreeCase):
    def test_an_idle_worker_takes_a_message_that_fits_when_it_arrives(self):
        tree = ran(root(worker("a", row("go", ("note", "x"), work=2))), 3)
        tree.send("a", "go")
        tree.send("a", "no")
        tree.send("a", "go")
        since = tree.entries_count
        tree.run(20)
        self.check_log(tree, """
            4 arrived 1 2
            4 arrived 2 2
            4 arrived 3 2
            4 taken 1 2
            4 noted 2 x
            6 idle 2
            6 taken 3 2
            6 noted 2 x
            8 idle 2
            """, since)
        self.assertEqual(statuses(tree), {1: "handled", 2: "waiting", 3: "handled"})

    def test_messages_that_do_not_fit_wait_until_they_do(self):
        rows = (row("go", ("mode", "second")), row("hop", mode="second"), row("back_again", ("mode", "first")),
                row("turn", ("mode", "first"), mode="second"))
        tree = ran(root(worker("a", *rows)), 1)
        for word in ("hop", "turn", "go"):
            tree.send("a", word)
        tree.run(9)
        self.assertEqual(lines_with(tree, "taken", "mode"),
                         ["2 taken 3 2", "2 mode 2 second", "3 taken 1 2", "4 taken 2 2", "4 mode 2 first"])

    def test_a_worker_without_a_row_for_start_takes_what_has_come_while_it_was_opening(self):
        tree = ran(root(worker("a", row("go"), opening=5)))
        tree.send("a", "no")
        tree.send("a", "go")
        tree.run(9)
        self.assertEqual(told(tree)[7:], ["1 arrived 1 2", "1 arrived 2 2", "5 running 2", "5 taken 2 2",
                                          "5 running 1", "6 idle 2"])

    def test_a_worker_with_a_row_for_start_is_busy_first(self):
        tree = ran(root(worker("a", row("start", work=3), row("go"), opening=5)))
        tree.send("a", "go")
        tree.run(20)
        self.assertEqual(lines_with(tree, "taken", "idle"), ["8 idle 2", "8 taken 1 2", "9 idle 2"])

    def test_a_message_that_arrives_while_it_is_busy_waits(self):
        tree = ran(root(worker("a", row("go", work=4))), 1)
        tree.send("a", "go")
        tree.run(3)
        tree.send("a", "go")
        tree.run(20)
        self.assertEqual(lines_with(tree, "arrived", "taken", "idle"),
                         ["2 arrived 1 2", "2 taken 1 2", "4 arrived 2 2", "6 idle 2", "6 taken 2 2", "10 idle 2"])

    def test_work_that_is_over_in_the_tick_of_an_arrival(self):
        # The message to itself was sent ahead of the end of the work being put: it arrives while a is busy.
        tree = ran(root(worker("a", row("start", ("send", "own", "go", 0)), row("go"))), 9)
        self.assertEqual(lines_with(tree, "arrived", "taken", "idle"),
                         ["1 arrived 1 2", "1 idle 2", "1 taken 1 2", "2 idle 2"])

    def test_a_closing_worker_takes_no_message(self):
        tree = ran(root(worker("a", row("go"), closing=5)), 1)
        tree.send("a", "go")
        tree.stop()
        tree.run(20)
        self.assertEqual(lines_with(tree, "arrived", "taken", "dropped"), ["2 arrived 1 2", "6 dropped 1"])

    def test_a_worker_that_is_asked_to_stop_just_ahead_of_the_taking(self):
        # At the tick 12, the new process of e removes x ahead of the arrival of the message, so that x begins to
        # close between the step of the arrival and the one by which it would take the message.
        inner = SupervisorPlan("s", worker("e", row("start", ("remove", "x")), opening=3))
        tree = ran(root(inner), 9)
        tree.add("root", worker("x", row("go"), closing=2))
        tree.fail("e")
        tree.run(11)
        tree.send("x", "go")
        since = tree.entries_count
        tree.run(20)
        self.check_log(tree, """
            12 running 5
            12 arrived 2 4
            12 closing 4
            13 idle 5
            14 ended 4 shutdown
            14 dropped 2
            14 removed 1 x
            14 sent 3 told None 5 told 1
            15 arrived 3 5
            """, since)


class Sending(TreeCase):
    def test_a_message_arrives_on_the_next_tick(self):
        tree = ran(root(WorkerPlan("a")), 7)
        self.assertEqual(tree.send("a", "go", 5), 1)
        self.assertEqual((tree.next_tick, statuses(tree)), (8, {1: "sent"}))
        tree.run(7)
        self.assertEqual(statuses(tree), {1: "sent"})
        tree.run(8)
        self.assertEqual((statuses(tree), told(tree)[-3:]), (
            {1: "waiting"}, ["7 input send ('a', 'go', 5)", "7 sent 1 send None a go 5", "8 arrived 1 2"]))

    def test_it_waits_also_while_the_process_is_opening_or_closing(self):
        tree = ran(root(WorkerPlan("a", opening=3, closing=3)))
        tree.send("a", "go")
        tree.run(5)
        tree.send("a", "go")
        tree.stop()
        tree.run(20)
        self.assertEqual(lines_with(tree, "arrived", "dropped"),
                         ["1 arrived 1 2", "6 arrived 2 2", "8 dropped 1", "8 dropped 2"])

    def test_it_is_dropped_without_a_process_and_at_a_supervisor(self):
        plan = root(WorkerPlan("a", restart="transient"), SupervisorPlan("s"), WorkerPlan("c", opening=9),
                    WorkerPlan("d"))
        tree = ran(plan, 1)
        tree.fail("a", "normal")
        for place in ("a", "s", "root", "d"):
            tree.send(place, "go")
        tree.run(9)
        self.assertEqual(lines_with(tree, "arrived", "dropped"), [f"2 dropped {number}" for number in (1, 2, 3, 4)])

    def test_it_goes_to_the_process_that_the_place_has_at_the_arrival(self):
        tree = ran(root(WorkerPlan("a")), 1)
        tree.send("a", "go")
        tree.fail("a")
        tree.run(2)
        self.assertEqual(lines_with(tree, "arrived"), ["2 arrived 1 3"])

    def test_a_place_that_is_gone_and_another_one_with_its_name(self):
        tree = ran(root(), 1)
        tree.add("root", WorkerPlan("x"))
        tree.run(1)
        tree.take_out("x")
        tree.add("root", WorkerPlan("x"))
        tree.send("x", "go")
        tree.run(1)
        tree.send("x", "go")
        tree.take_out("x")
        tree.add("root", WorkerPlan("x"))
        tree.run(9)
        self.assertEqual((lines_with(tree, "arrived", "dropped"), tree.number_of("x")),
                         (["2 dropped 1", "2 dropped 2"], 4))

    def test_two_hundred_messages_can_wait(self):
        tree = ran(root(worker("a", row("go"))), 1)
        for _ in range(202):
            tree.send("a", "no")
        tree.run(2)
        self.assertEqual(lines_with(tree, "dropped"), ["2 dropped 201", "2 dropped 202"])
        self.assertEqual(len(lines_with(tree, "arrived")), 200)
        tree.send("a", "go")
        tree.run(3)
        self.assertEqual(lines_with(tree, "dropped")[-1], "3 dropped 203")
        tree.fail("a")
        self.assertEqual(lines_with(tree, "dropped")[3:], [f"3 dropped {number}" for number in range(1, 201)])

    def test_one_that_was_taken_does_not_wait(self):
        tree = ran(root(worker("a", row("go", work=9))), 1)
        for word in ["no"] * 199 + ["go"]:
            tree.send("a", word)
        tree.run(2)
        tree.send("a", "no")
        tree.send("a", "no")
        tree.run(3)
        self.assertEqual(lines_with(tree, "taken", "dropped"), ["2 taken 200 2", "3 dropped 202"])

    def test_values_of_deeds(self):
        for value, sent, expected in ((7, 3, 7), (-LARGEST, 3, -LARGEST), (("plus", 4), 3, 7), (("plus", -4), 3, -1),
                                      (("plus", 0), -5, -5), (("plus", 1), LARGEST, LARGEST),
                                      (("plus", LARGEST), 1, LARGEST), (("plus", -1), -LARGEST, -LARGEST),
                                      (("plus", LARGEST), -LARGEST, 0), (("plus", LARGEST), LARGEST, LARGEST),
                                      (("plus", 1), LARGEST - 1, LARGEST), (("plus", -2), 1 - LARGEST, -LARGEST)):
            rows = (row("go", ("send", "own", "hey", value), ("ask", "root", "hey", value), ("later", 1, "hey", value)),
                    row("quiz", ("reply", value)))
            tree = ran(root(worker("a", *rows)), 1)
            tree.send("a", "go", sent)
            number = tree.ask("a", "quiz", sent)
            tree.run(5)
            self.assertEqual([int(line.split()[-1]) for line in lines_with(tree, "sent") if "hey" in line],
                             [expected] * 3)
            self.assertEqual(tree.world.answers[number], expected)

    def test_the_names_that_deeds_mean(self):
        mirror = worker("b", row("go", ("send", "sender", "hey", 1), ("send", "own", "hey", 2),
                                 ("send", "about", "hey", 3), ("send", "c", "hey", 4), ("send", "no", "hey", 5)))
        tree = ran(root(worker("a", row("go", ("send", "b", "go", 0))), mirror, WorkerPlan("c")), 1)
        tree.send("a", "go")
        tree.run(3)
        self.assertEqual([line for line in lines_with(tree, "sent") if "hey" in line],
                         ["3 sent 3 send 3 a hey 1", "3 sent 4 send 3 b hey 2", "3 sent 5 send 3 c hey 4"])
        tree.send("b", "go")
        tree.run(9)
        # The caller has no place.
        self.assertEqual([line for line in lines_with(tree, "sent") if "hey" in line][3:],
                         ["4 sent 7 send 3 b hey 2", "4 sent 8 send 3 c hey 4"])

    def test_a_sender_that_has_ended_still_has_its_place(self):
        plan = root(worker("a", row("go", ("send", "b", "go", 0), ("end", "failed"))),
                    worker("b", row("go", ("send", "sender", "hey", 0))))
        tree = ran(plan, 1)
        tree.send("a", "go")
        tree.run(9)
        self.assertEqual([line for line in told(tree) if "hey" in line or "arrived 3" in line],
                         ["3 sent 3 send 3 a hey 0", "4 arrived 3 4"])

    def test_an_added_sender_that_is_gone_has_no_place(self):
        tree = ran(root(worker("b", row("go", ("send", "sender", "hey", 0)))), 1)
        adds = worker("x", row("start", ("send", "b", "go", 0), ("end", "normal")), restart="temporary")
        tree.add("root", adds)
        tree.run(1)
        tree.add("root", WorkerPlan("x"))
        tree.run(9)
        self.assertEqual((tree.state_of("x"), lines_with(tree, "taken"), [x for x in told(tree) if "hey" in x]),
                         ("running", ["2 taken 1 2"], []))


class Questions(TreeCase):
    def asker(self, name="a"):
        """A worker that asks b, and notes what it hears."""
        return worker(name, row("go", ("ask", "b", "q", ("plus", 1))), row("answer", ("note", "heard"),
                      ("send", "about", "hey", ("plus", 0))), row("back", ("note", "lost"),
                      ("send", "about", "hey", ("plus", 0))))

    def test_a_reply_is_an_answer(self):
        tree = ran(root(self.asker(), worker("b", row("q", ("reply", ("plus", 10)), ("reply", 3), work=4))), 1)
        tree.send("a", "go", 5)
        since = tree.entries_count
        tree.run(9)
        self.check_log(tree, """
            2 arrived 1 2
            2 taken 1 2
            2 sent 2 ask 2 b q 6
            3 arrived 2 3
            3 idle 2
            3 taken 2 3
            3 answered 2
            3 sent 3 answer 3 2 answer 16
            4 arrived 3 2
            4 taken 3 2
            4 noted 2 heard
            4 sent 4 send 2 b hey 16
            5 arrived 4 3
            5 idle 2
            7 idle 3
            """, since)
        self.assertEqual(tree.world.questions, {2: "answered"})

    def test_the_sender_of_an_answer_is_the_place_that_replied(self):
        plan = root(worker("a", row("go", ("ask", "b", "q", 0)), row("answer", ("send", "sender", "hey", 0))),
                    worker("b", row("q", ("reply", 1))))
        tree = ran(plan, 1)
        tree.send("a", "go")
        tree.run(9)
        self.assertIn("4 sent 4 send 2 b hey 0", told(tree))

    def test_a_reply_answers_the_question_that_was_taken_last(self):
        # Between the question and the reply, b takes a message that is none.
        rows = (row("q", ("note", "q")), row("go", ("reply", ("plus", 1))))
        tree = ran(root(worker("b", *rows)), 1)
        first, second = tree.ask("b", "q", 10), tree.ask("b", "q", 20)
        for value in (30, 40):
            tree.send("b", "go", value)
        tree.run(9)
        self.assertEqual(lines_with(tree, "taken", "answered"), [
            "2 taken 1 2", "3 taken 2 2", "4 taken 3 2", "4 answered 2", "5 taken 4 2"])
        self.assertEqual(tree.world.questions, {first: "open", second: "answered"})
        self.assertEqual(tree.world.answers, {second: 31})

    def test_a_reply_without_a_question_does_nothing(self):
        tree = ran(root(worker("b", row("start", ("reply", 1)), row("go", ("reply", 2)))), 1)
        tree.send("b", "go")
        tree.run(9)
        self.assertEqual(lines_with(tree, "answered", "sent"), ["1 sent 1 send None b go 0"])

    def test_questions_of_the_caller_send_nothing(self):
        tree = ran(root(worker("b", row("q", ("reply", 5)), row("hop")), SupervisorPlan("s")), 1)
        answered, returned, kept = tree.ask("b", "q"), tree.ask("s", "q"), tree.ask("b", "hop")
        tree.run(3)
        tree.fail("b")
        tree.run(9)
        self.assertEqual(lines_with(tree, "answered", "returned"), ["2 returned 2", "2 answered 1", "3 returned 3"])
        self.assertEqual(len(lines_with(tree, "sent")), 3)
        self.assertEqual(tree.world.questions, {answered: "answered", returned: "returned", kept: "returned"})

    def test_a_dropped_question_is_returned(self):
        tree = ran(root(self.asker(), WorkerPlan("b", restart="transient")), 1)
        tree.fail("b", "normal")
        tree.send("a", "go", 5)
        since = tree.entries_count
        tree.run(9)
        self.check_log(tree, """
            2 arrived 1 2
            2 taken 1 2
            2 sent 2 ask 2 b q 6
            3 dropped 2
            3 returned 2
            3 sent 3 back None 2 back 6
            3 idle 2
            4 arrived 3 2
            4 taken 3 2
            4 noted 2 lost
            4 sent 4 send 2 b hey 6
            5 dropped 4
            5 idle 2
            """, since)

    def test_a_question_is_returned_when_it_does_not_find_room(self):
        tree = ran(root(self.asker(), WorkerPlan("b")), 1)
        for _ in range(200):
            tree.send("b", "no")
        tree.send("a", "go")
        tree.run(3)
        self.assertEqual(lines_with(tree, "dropped", "returned"), ["3 dropped 202", "3 returned 202"])

    def test_the_box_and_the_questions_at_an_end(self):
        # First what waits, in the order of the box, then what was taken, by numbers.
        rows = (row("second"), row("third", work=20))
        plan = root(worker("a", row("go", ("ask", "b", "third", 3))), worker("b", *rows, restart="transient"))
        tree = ran(plan, 1)
        tree.ask("b", "waits", 1)
        tree.ask("b", "second", 2)
        tree.send("b", "waits")
        tree.send("a", "go")
        tree.run(3)
        tree.ask("b", "second", 4)
        tree.run(5)
        since = tree.entries_count
        tree.fail("b", "normal")
        self.check_log(tree, """
            5 input fail ('b', 'normal')
            5 ended 3 normal
            5 dropped 1
            5 returned 1
            5 dropped 3
            5 dropped 6
            5 returned 6
            5 returned 2
            5 returned 5
            5 sent 7 back None 2 back 3
            """, since)

    def test_taken_questions_are_returned_by_their_numbers(self):
        # The mode lets b take the second question ahead of the first one.
        rows = (row("later", mode="first"), row("sooner", mode="first"), row("turn", ("mode", "other")),
                row("sooner", mode="other"), row("swap", ("mode", "first"), mode="other"))
        tree = ran(root(worker("b", *rows)), 1)
        for word in ("turn", "later", "sooner", "swap"):
            tree.ask("b", word)
        tree.run(9)
        self.assertEqual(lines_with(tree, "taken"), ["2 taken 1 2", "3 taken 3 2", "4 taken 4 2", "5 taken 2 2"])
        tree.fail("b")
        self.assertEqual(lines_with(tree, "returned"), [f"9 returned {number}" for number in (1, 2, 3, 4)])

    def test_an_answered_question_is_not_returned(self):
        tree = ran(root(worker("b", row("q", ("reply", 1)))), 1)
        tree.ask("b", "q")
        tree.run(3)
        tree.fail("b")
        self.assertEqual(lines_with(tree, "returned"), [])

    def test_an_answer_to_a_process_that_has_ended_is_dropped(self):
        plan = root(self.asker(), worker("b", row("q", work=3), row("go", ("reply", 9))), most=5)
        tree = ran(plan, 1)
        tree.send("a", "go")
        tree.run(4)
        tree.fail("a")
        tree.send("b", "go")
        tree.run(20)
        # The new process of a is not the one that has asked.
        self.assertEqual(lines_with(tree, "answered", "dropped"), ["6 answered 2", "7 dropped 4"])
        self.assertIn("6 sent 4 answer 3 2 answer 9", told(tree))

    def test_a_question_to_itself_is_returned_to_nobody(self):
        tree = ran(root(worker("a", row("start", ("ask", "own", "q", 1)), row("q", ("end", "failed"))), most=0), 1)
        tree.run(9)
        self.assertEqual(lines_with(tree, "taken", "returned", "sent", "dropped"), [
            "0 sent 1 ask 2 a q 1", "1 taken 1 2", "1 returned 1", "1 sent 2 back None 2 back 1", "2 dropped 2"])


if __name__ == "__main__":
    unittest.main()
