"""watchtree.trees: links and signals, monitors, timers (14, and the ends of 9.1)."""

import unittest

from tests.telling import TreeCase, lines_with, ran, root, row, told, worker
from watchtree.plans import SupervisorPlan, WorkerPlan


def doer(name, *deeds, **settings):
    """A worker that does these deeds when it hears go."""
    return worker(name, row("go", *deeds), **settings)


class Links(TreeCase):
    def test_an_abnormal_end_ends_those_who_are_joined(self):
        plan = root(WorkerPlan("a"), doer("b", ("link", "a")), doer("c", ("link", "b")), most=9)
        tree = ran(plan, 1)
        for place in "bc":
            tree.send(place, "go")
        tree.run(3)
        self.assertEqual(lines_with(tree, "linked"), ["2 linked 3 2", "2 linked 4 3"])
        since = tree.entries_count
        tree.fail("a", "crash")
        tree.run(3)
        self.check_log(tree, """
            3 input fail ('a', 'crash')
            3 ended 2 crash
            3 signal 3 crash
            3 ended 3 crash
            3 signal 4 crash
            3 ended 4 crash
            3 restart 1 a
            3 started 5 a 1
            3 running 5
            3 restart 1 b
            3 started 6 b 1
            3 running 6
            3 restart 1 c
            3 started 7 c 1
            3 running 7
            """, since)

    def test_a_link_works_both_ways_whoever_made_it(self):
        for place, other in (("a", "b"), ("b", "a")):
            tree = ran(root(WorkerPlan("a"), doer("b", ("link", "a")), most=9), 1)
            tree.send("b", "go")
            tree.run(2)
            tree.fail(place)
            tree.run(2)
            self.assertEqual((tree.starts_of(other), len(lines_with(tree, "signal"))), (2, 1))

    def test_a_normal_end_has_no_signal_but_the_link_goes(self):
        tree = ran(root(doer("a", ("end", "normal")), doer("b", ("link", "a")), most=9), 1)
        tree.send("b", "go")
        tree.run(2)
        tree.send("a", "go")
        tree.run(9)
        tree.fail("b")
        tree.run(9)
        self.assertEqual(lines_with(tree, "signal", "ended"), ["3 ended 2 normal", "9 ended 3 failed"])

    def test_a_shutdown_has_no_signal_and_a_kill_has_one(self):
        for deadline, signals in ((None, []), (1, ["3 signal 2 killed"])):
            plan = root(doer("a", ("link", "b")), WorkerPlan("b", closing=2, deadline=deadline), most=9)
            tree = ran(plan, 1)
            tree.send("a", "go")
            tree.run(2)
            tree.take_out("b")
            tree.run(9)
            self.assertEqual(lines_with(tree, "signal"), signals)

    def test_signals_are_in_the_order_in_which_the_links_were_made(self):
        plan = root(WorkerPlan("a"), *(doer(name, ("link", "a")) for name in "bcd"), most=9)
        tree = ran(plan, 1)
        for place in "cdb":
            tree.send(place, "go")
            tree.run(tree.tick + 1)
        tree.fail("a")
        tree.run(tree.tick)
        self.assertEqual(lines_with(tree, "signal"), [f"4 signal {number} failed" for number in (4, 5, 3)])

    def test_links_that_change_nothing_have_no_entry(self):
        deeds = (("link", "b"), ("link", "b"), ("link", "own"), ("link", "a"), ("link", "no"), ("unlink", "no"),
                 ("unlink", "c"), ("unlink", "own"))
        tree = ran(root(doer("a", *deeds), doer("b", ("link", "a"), ("unlink", "root")), WorkerPlan("c")), 1)
        tree.send("a", "go")
        tree.run(3)
        tree.send("b", "go")
        tree.run(9)
        self.assertEqual(lines_with(tree, "linked", "unlinked", "signal", "ended"), ["2 linked 2 3"])

    def test_unlink_takes_the_link_away_whoever_made_it(self):
        for unlinker in "ab":
            other = "ab".replace(unlinker, "")
            plan = root(worker("a", row("go", ("link", "b")), row("off", ("unlink", "b"), ("unlink", "b"))),
                        worker("b", row("off", ("unlink", "a"))), most=9)
            tree = ran(plan, 1)
            tree.send("a", "go")
            tree.run(3)
            tree.send(unlinker, "off")
            tree.run(5)
            tree.fail(other)
            tree.run(9)
            numbers = {"a": "2 3", "b": "3 2"}[unlinker]
            self.assertEqual(lines_with(tree, "unlinked", "signal"), [f"4 unlinked {numbers}"])

    def test_unlink_is_for_the_present_process_of_the_place(self):
        # c is not linked with the process that a has now.
        plan = root(doer("a"), worker("c", row("start", ("trap", True)), row("go", ("link", "a")),
                                      row("off", ("unlink", "a"))), most=9)
        tree = ran(plan, 1)
        tree.send("c", "go")
        tree.run(3)
        tree.fail("a")
        tree.run(3)
        tree.send("c", "off")
        tree.run(9)
        self.assertEqual(lines_with(tree, "linked", "unlinked"), ["2 linked 3 2"])

    def test_nobody_to_link_with(self):
        plan = root(doer("a", ("link", "s"), ("note", "still")), SupervisorPlan("s"), most=9)
        tree = ran(plan, 1)
        since = tree.entries_count + 2
        tree.send("a", "go")
        tree.run(2)
        self.check_log(tree, """
            2 arrived 1 2
            2 taken 1 2
            2 noted 2 still
            2 signal 2 nobody
            2 ended 2 nobody
            2 restart 1 a
            2 started 4 a 1
            2 running 4
            """, since)

    def test_a_place_without_a_process_has_nobody(self):
        hears = worker("a", row("start", ("trap", True)), row("go", ("link", "t"), ("link", "later")),
                       row("ended", ("send", "about", "hey", ("plus", 0))))
        tree = ran(root(hears, WorkerPlan("t", restart="temporary"), WorkerPlan("later", opening=9)), 1)
        tree.fail("t")
        tree.send("a", "go")
        tree.run(5)
        # t has ended, and later is opening: this is a process, so it is joined.
        self.assertEqual(lines_with(tree, "signal", "linked"), ["2 linked 2 4", "2 signal 2 nobody"])
        self.assertEqual([line for line in told(tree) if "ended None" in line or "hey" in line],
                         ["2 sent 2 ended None 2 ended 0", "3 sent 3 send 2 t hey 0"])

    def test_a_process_that_traps_is_sent_a_message(self):
        hears = worker("b", row("go", ("trap", True), ("link", "a")), row("ended", ("note", "heard"),
                       ("send", "about", "hey", ("plus", 0)), ("send", "sender", "hey", 0)))
        tree = ran(root(WorkerPlan("a"), hears), 1)
        tree.send("b", "go")
        tree.run(3)
        since = tree.entries_count
        tree.fail("a")
        tree.run(9)
        self.check_log(tree, """
            3 input fail ('a', 'failed')
            3 ended 2 failed
            3 signal 3 failed
            3 sent 2 ended None 3 ended 2
            3 restart 1 a
            3 started 4 a 1
            3 running 4
            4 arrived 2 3
            4 taken 2 3
            4 noted 3 heard
            4 sent 3 send 3 a hey 2
            5 arrived 3 4
            5 idle 3
            """, since)

    def test_trap_holds_until_it_is_changed(self):
        hears = worker("b", row("on", ("trap", True)), row("off", ("trap", False)), row("go", ("link", "a")))
        tree = ran(root(WorkerPlan("a"), hears, most=20, span=1), 1)
        for word in ("on", "go", "off"):
            tree.send("b", word)
            tree.run(tree.tick + 2)
            tree.fail("a")
            tree.run(tree.tick + 1)
            tree.send("b", "go")
            tree.run(tree.tick + 2)
        tree.fail("a")
        tree.run(tree.tick)
        self.assertEqual(lines_with(tree, "trap"), ["2 trap 3 True", "12 trap 3 False"])
        signals = [line.split()[2] for line in lines_with(tree, "signal")]
        # The first one becomes a message, the next one ends its process, which traps no more; so does the last one.
        self.assertEqual((signals, tree.starts_of("b")), (["3", "3", "7"], 3))

    def test_a_closing_process_does_not_feel_signals(self):
        for trap in (True, False):
            plan = root(doer("a", ("trap", trap), ("link", "b"), closing=3), WorkerPlan("b"), most=9)
            tree = ran(plan, 1)
            tree.send("a", "go")
            tree.run(3)
            tree.take_out("a")
            tree.run(4)
            tree.fail("b")
            tree.run(9)
            self.assertEqual((lines_with(tree, "signal"), tree.reason_of("a")), ([], "shutdown"))

    def test_an_opening_process_ends_by_a_signal(self):
        tree = ran(root(doer("a", ("link", "b")), WorkerPlan("b", opening=2), most=9), 2)
        tree.fail("b")
        tree.send("a", "go")
        tree.run(3)
        tree.fail("a")
        since = tree.entries_count
        tree.run(3)
        self.check_log(tree, """
            3 signal 4 failed
            3 ended 4 failed
            3 restart 1 b
            3 started 5 b 1
            """, since)

    def test_signals_of_a_kill_come_to_those_who_live(self):
        # a and b are killed in one step, a's signal for b finds that it has ended.
        inner = SupervisorPlan("s", doer("a", ("link", "b"), ("link", "z")), WorkerPlan("b", closing=9), deadline=1)
        tree = ran(root(inner, WorkerPlan("z"), most=9), 1)
        tree.send("a", "go")
        tree.run(3)
        tree.take_out("s")
        since = tree.entries_count
        tree.run(4)
        self.check_log(tree, """
            3 closing 2
            3 closing 4
            4 ended 4 killed
            4 ended 3 killed
            4 ended 2 killed
            4 signal 5 killed
            4 ended 5 killed
            4 removed 1 s
            4 restart 1 z
            4 started 6 z 1
            4 running 6
            """, since)


class Monitors(TreeCase):
    def test_the_end_of_a_process_is_told_whatever_its_reason(self):
        for reason in ("failed", "normal"):
            hears = worker("b", row("go", ("monitor", "a")), row("down", ("send", "about", "hey", ("plus", 0)),
                           ("send", "sender", "hey", 0)))
            tree = ran(root(WorkerPlan("a"), hears, most=9), 1)
            tree.send("b", "go")
            tree.run(3)
            since = tree.entries_count
            tree.fail("a", reason)
            tree.run(9)
            self.check_log(tree, f"""
                3 input fail ('a', '{reason}')
                3 ended 2 {reason}
                3 sent 2 down None 3 down 2
                3 restart 1 a
                3 started 4 a 1
                3 running 4
                4 arrived 2 3
                4 taken 2 3
                4 sent 3 send 3 a hey 2
                5 arrived 3 4
                5 idle 3
                """, since)
            self.assertIn("2 watched 3 2", told(tree))
            # The monitor is gone.
            tree.fail("a", reason)
            tree.run(20)
            self.assertEqual(len([line for line in told(tree) if "down" in line and "sent" in line]), 1)

    def test_supervisors_are_watched_too(self):
        inner = SupervisorPlan("s", WorkerPlan("a"), most=0)
        tree = ran(root(inner, doer("b", ("monitor", "s"), ("monitor", "root"))), 1)
        tree.send("b", "go")
        tree.run(3)
        tree.fail("a")
        tree.run(9)
        self.assertEqual(lines_with(tree, "watched"), ["2 watched 4 2", "2 watched 4 1"])
        self.assertEqual([line for line in lines_with(tree, "sent") if "down" in line], ["3 sent 2 down None 4 down 2"])

    def test_a_process_that_is_opening_or_closing_is_watched(self):
        plan = root(doer("a", ("monitor", "b"), ("monitor", "c")), WorkerPlan("b", closing=5),
                    SupervisorPlan("s", WorkerPlan("c", opening=5)))
        tree = ran(plan, 5)
        tree.take_out("b")
        tree.fail("c")
        tree.send("a", "go")
        tree.run(20)
        self.assertEqual(lines_with(tree, "watched"), ["6 watched 2 3", "6 watched 2 6"])
        self.assertEqual([line for line in lines_with(tree, "sent") if "down" in line],
                         ["10 sent 2 down None 2 down 3"])

    def test_without_a_process_the_message_is_sent_at_once(self):
        hears = worker("a", row("go", ("monitor", "t"), ("note", "x"), ("monitor", "t")),
                       row("down", ("send", "about", "hey", ("plus", 1))))
        tree = ran(root(hears, WorkerPlan("t", restart="temporary")), 1)
        tree.fail("t")
        tree.send("a", "go")
        tree.run(3)
        self.assertEqual([line for line in told(tree) if "None 2" in line or "hey" in line or "noted" in line],
                         ["2 sent 2 down None 2 down 0", "2 noted 2 x", "2 sent 3 down None 2 down 0",
                          "3 sent 4 send 2 t hey 1"])

    def test_monitors_that_change_nothing_have_no_entry(self):
        deeds = (("monitor", "b"), ("monitor", "b"), ("monitor", "no"), ("unmonitor", "no"), ("unmonitor", "c"),
                 ("unmonitor", "own"), ("unmonitor", "b"), ("unmonitor", "b"))
        tree = ran(root(doer("a", *deeds), doer("b", ("unmonitor", "a")), WorkerPlan("c")), 1)
        tree.send("b", "go")
        tree.send("a", "go")
        tree.run(5)
        self.assertEqual(lines_with(tree, "watched", "unwatched"), ["2 watched 2 3", "2 unwatched 2 3"])
        tree.fail("b")
        tree.run(9)
        self.assertEqual([line for line in told(tree) if "down" in line], [])

    def test_unmonitor_is_for_the_own_monitor(self):
        plan = root(WorkerPlan("a"), doer("b", ("monitor", "a")), worker("c", row("go", ("monitor", "a")),
                    row("off", ("unmonitor", "a"))), most=9)
        tree = ran(plan, 1)
        for place in "bc":
            tree.send(place, "go")
        tree.run(3)
        tree.send("c", "off")
        tree.run(5)
        tree.fail("a")
        tree.run(5)
        self.assertEqual([line for line in lines_with(tree, "sent") if "down" in line], ["5 sent 4 down None 3 down 2"])

    def test_those_who_watch_are_told_in_the_order_in_which_they_began(self):
        plan = root(WorkerPlan("a"), *(doer(name, ("monitor", "a")) for name in "bcd"), most=9)
        tree = ran(plan, 1)
        for place in "dbc":
            tree.send(place, "go")
            tree.run(tree.tick + 1)
        tree.fail("a")
        tree.run(tree.tick)
        self.assertEqual([line.split()[5] for line in lines_with(tree, "sent") if "down" in line], ["5", "3", "4"])

    def test_a_monitor_of_itself_goes_without_a_message(self):
        tree = ran(root(doer("a", ("monitor", "own")), WorkerPlan("b")), 1)
        tree.send("a", "go")
        tree.run(2)
        tree.fail("a")
        tree.run(9)
        self.assertEqual(lines_with(tree, "watched"), ["2 watched 2 2"])
        self.assertEqual([line for line in told(tree) if "down" in line], [])

    def test_monitors_of_a_process_that_has_ended_are_gone(self):
        tree = ran(root(doer("a", ("monitor", "b")), WorkerPlan("b"), most=9), 1)
        tree.send("a", "go")
        tree.run(3)
        tree.fail("a")
        tree.fail("b")
        tree.run(9)
        self.assertEqual([line for line in told(tree) if "down" in line], [])

    def test_the_owner_may_have_ended_when_the_message_is_sent(self):
        # Both are killed in one step, b first: its monitor puts the step while a has not ended yet.
        inner = SupervisorPlan("s", doer("a", ("monitor", "b")), WorkerPlan("b", closing=9), deadline=1)
        tree = ran(root(inner), 1)
        tree.send("a", "go")
        tree.run(3)
        tree.take_out("s")
        since = tree.entries_count
        tree.run(9)
        self.check_log(tree, """
            3 closing 2
            3 closing 4
            4 ended 4 killed
            4 ended 3 killed
            4 ended 2 killed
            4 sent 2 down None 3 down 4
            4 removed 1 s
            5 dropped 2
            """, since)


class EndsOfProcesses(TreeCase):
    def test_signals_then_monitors_then_the_notice(self):
        plan = root(WorkerPlan("a"), doer("b", ("monitor", "a")), doer("c", ("link", "a")),
                    doer("d", ("monitor", "a")), doer("e", ("link", "a")), most=9)
        tree = ran(plan, 1)
        for place in "bcde":
            tree.send(place, "go")
        tree.run(3)
        since = tree.entries_count + 2
        tree.fail("a")
        tree.run(3)
        self.assertEqual(told(tree, since)[:7], [
            "3 signal 4 failed", "3 ended 4 failed", "3 signal 6 failed", "3 ended 6 failed",
            "3 sent 5 down None 3 down 2", "3 sent 6 down None 5 down 2", "3 restart 1 a"])


class Timers(TreeCase):
    def test_a_message_arrives_after_so_many_ticks(self):
        rows = (row("go", ("later", 1, "one", 1), ("later", 3, "three", ("plus", 3)), ("later", 2, "two", 2)),
                row("three", ("send", "sender", "hey", ("plus", 1))))
        tree = ran(root(worker("a", *rows)), 1)
        since = tree.entries_count + 2
        tree.send("a", "go", 10)
        tree.run(9)
        self.check_log(tree, """
            2 arrived 1 2
            2 taken 1 2
            2 timer 2 3 one 1
            2 timer 2 5 three 13
            2 timer 2 4 two 2
            2 sent 2 later 2 2 one 1
            3 sent 3 later 2 2 two 2
            3 idle 2
            3 arrived 2 2
            4 sent 4 later 2 2 three 13
            4 arrived 3 2
            5 arrived 4 2
            5 taken 4 2
            5 sent 5 send 2 a hey 14
            6 arrived 5 2
            6 idle 2
            """, since)

    def test_cancel_takes_all_timers_with_the_word_away(self):
        rows = (row("go", ("later", 5, "x", 1), ("later", 6, "y", 2), ("later", 7, "x", 3)),
                row("off", ("cancel", "x"), ("cancel", "x"), ("cancel", "z")))
        tree = ran(root(worker("a", *rows)), 1)
        tree.send("a", "go")
        tree.run(4)
        tree.send("a", "off")
        tree.run(20)
        self.assertEqual(lines_with(tree, "cancelled"), ["5 cancelled 2 x"])
        self.assertEqual([line for line in lines_with(tree, "sent") if "later" in line], ["7 sent 3 later 2 2 y 2"])

    def test_the_steps_of_cancelled_timers_stay(self):
        tree = ran(root(worker("a", row("start", ("later", 9, "x", 1), ("cancel", "x")))), 1)
        self.assertEqual((tree.next_tick, tree.is_quiet), (8, False))
        self.assertEqual((tree.run(8), tree.is_quiet), (0, True))

    def test_a_message_that_was_sent_is_not_cancelled(self):
        rows = (row("start", ("later", 1, "x", 7)), row("go", ("cancel", "x")))
        tree = ran(root(worker("a", *rows)))
        tree.send("a", "go")
        tree.run(9)
        self.assertEqual(lines_with(tree, "cancelled"), [])
        self.assertIn("1 arrived 1 2", told(tree))

    def test_timers_go_with_their_process(self):
        tree = ran(root(worker("a", row("go", ("later", 5, "x", 1)))), 1)
        tree.send("a", "go")
        tree.run(3)
        tree.fail("a")
        tree.run(20)
        self.assertEqual(len(lines_with(tree, "sent")), 1)

    def test_timers_of_others_stay(self):
        rows = (row("go", ("later", 5, "x", 1)), row("off", ("cancel", "x")))
        tree = ran(root(worker("a", *rows), worker("b", *rows)), 1)
        for place in "ab":
            tree.send(place, "go")
        tree.run(3)
        tree.send("a", "off")
        tree.run(20)
        self.assertEqual([line for line in lines_with(tree, "sent") if "later" in line], ["6 sent 4 later 3 3 x 1"])

    def test_a_closing_process_still_has_its_timers(self):
        tree = ran(root(worker("a", row("go", ("later", 5, "x", 1)), closing=9)), 1)
        tree.send("a", "go")
        tree.run(3)
        tree.stop()
        tree.run(20)
        self.assertEqual(lines_with(tree, "sent", "arrived", "dropped")[-3:],
                         ["6 sent 2 later 2 2 x 1", "7 arrived 2 2", "12 dropped 2"])


if __name__ == "__main__":
    unittest.main()
