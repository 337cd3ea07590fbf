"""The examples of the interface, to the letter."""

import unittest

PLANS = """
>>> from watchtree.plans import SupervisorPlan, WorkerPlan, changed, is_root, names, path_to
>>> plan = SupervisorPlan("root", SupervisorPlan("pair", WorkerPlan("left"), WorkerPlan("right", closing=4)), most=2)
>>> (names(plan), path_to(plan, "right"), len(plan), "left" in plan, is_root(plan), changed(plan, "root", most=2) == plan)
(('root', 'pair', 'left', 'right'), ('root', 'pair', 'right'), 4, True, True, True)
"""

WRONG_SETTINGS = """
>>> from watchtree.plans import WorkerPlan
>>> WorkerPlan("left", opening=-1, closing=-1)
raises BadSetting('opening')
"""

SCRIPTS = """
>>> from watchtree.scripts import is_deed, words_of, wrong_row
>>> row = ("first", "q", 2, (("reply", ("plus", 1)),))
>>> (wrong_row((row, row)), words_of((row,)), is_deed(("send", "a", "hello", 0)), is_deed(("send", "a", "told", 0)))
(1, ('q',), True, False)
"""

TEXTS = """
>>> from watchtree.plans import SupervisorPlan, WorkerPlan
>>> from watchtree.texts import plan_text, read_plan
>>> plan = SupervisorPlan("root", WorkerPlan("left", closing=4, deadline=2), strategy="all")
>>> (plan_text(plan), read_plan(plan_text(plan)) == plan)
('supervisor root permanent all 1 10 -\\n  worker left permanent 0 4 2 0', True)
"""

TREES = """
>>> from watchtree.plans import SupervisorPlan, WorkerPlan
>>> from watchtree.trees import Tree
>>> tree = Tree(SupervisorPlan("root", WorkerPlan("a"), WorkerPlan("b", opening=2)))
>>> made = [tree.run(2), tree.fail("a"), tree.run(5), tree.budget("root"), tree.running, tree.fail("a"), tree.run(5)]
>>> (made, tree.is_over, tree.reason_of("root"), tree.entries_count)
([5, None, 3, 0, ('root', 'a', 'b'), None, 5], True, 'gave_up', 19)
"""

TIMES = """
>>> from watchtree.plans import SupervisorPlan, WorkerPlan
>>> from watchtree.times import opening_time, shutdown_told, stopping_time
>>> from watchtree.trees import Tree
>>> inner = SupervisorPlan("inner", WorkerPlan("w", opening=1, closing=2), most=0, span=1, deadline=3)
>>> plan = SupervisorPlan("root", inner, WorkerPlan("v", closing=5, deadline=2), strategy="all", span=5)
>>> tree = Tree(plan)
>>> (tree.run_until_quiet(100), tree.tick, opening_time(plan), stopping_time(plan), shutdown_told(tree))
(True, 1, 1, 4, (('v', 3, 'killed'), ('w', 5, 'shutdown'), ('inner', 5, 'shutdown'), ('root', 5, 'shutdown')))
"""

FALLS = """
>>> from watchtree.falls import attacks, fall, fewest, reach
>>> from watchtree.plans import SupervisorPlan, WorkerPlan
>>> from watchtree.trees import Tree
>>> inner = SupervisorPlan("inner", WorkerPlan("w", opening=1, closing=2), most=0, span=1, deadline=3)
>>> plan = SupervisorPlan("root", inner, WorkerPlan("v", closing=5, deadline=2), strategy="all", span=5)
>>> tree = Tree(plan)
>>> (tree.run_until_quiet(100), attacks(plan, "w"), fall(plan, "w"), fewest(plan), reach(tree, "w"))
(True, (('inner', 1, 0), ('root', 3, 5)), (2, 6), 2, ('inner', 'v', 'w'))
"""

MESSAGES = """
>>> from watchtree.messages import box, hangs_on, rings
>>> from watchtree.plans import SupervisorPlan, WorkerPlan
>>> from watchtree.trees import Tree
>>> rows = (("stuck", "answer", 1, ()),)
>>> one = WorkerPlan("a", script=(("first", "start", 1, (("ask", "b", "q", 0), ("mode", "stuck"))),) + rows)
>>> two = WorkerPlan("b", script=(("first", "start", 1, (("ask", "a", "q", 0), ("mode", "stuck"))),) + rows)
>>> tree = Tree(SupervisorPlan("root", one, two))
>>> (tree.run_until_quiet(100), hangs_on(tree, "a"), rings(tree), box(tree, "a"))
(True, 'b', (('a', 'b'),), (('q', 0),))
"""

LINKS = """
>>> from watchtree.messages import links_of
>>> from watchtree.plans import SupervisorPlan, WorkerPlan
>>> from watchtree.trees import Tree
>>> joined = WorkerPlan("b", script=(("first", "start", 1, (("link", "a"),)),))
>>> tree = Tree(SupervisorPlan("root", WorkerPlan("a"), joined, most=2))
>>> first = (tree.run_until_quiet(100), links_of(tree, "a"), tree.fail("a"))
>>> (first, tree.run_until_quiet(100), links_of(tree, "a"), tree.noted("root"))
((True, (3,), None), True, (5,), (1, 1))
"""

NO_MESSAGE = """
>>> from watchtree.messages import status_of
>>> from watchtree.plans import SupervisorPlan
>>> from watchtree.trees import Tree
>>> status_of(Tree(SupervisorPlan("root")), 1)
raises NoMessage(1)
"""

LOGS = """
>>> from watchtree.logs import chain, entries
>>> from watchtree.messages import counts, question_of
>>> from watchtree.plans import SupervisorPlan, WorkerPlan
>>> from watchtree.trees import Tree
>>> asks = (("first", "start", 1, (("ask", "b", "q", 5),)), ("first", "answer", 1, (("note", "done"),)))
>>> replies = (("first", "q", 3, (("reply", ("plus", 1)),)),)
>>> tree = Tree(SupervisorPlan("root", WorkerPlan("a", script=asks), WorkerPlan("b", script=replies)))
>>> made = (tree.run_until_quiet(100), tree.tick, counts(tree), question_of(tree, 1), list(entries(tree))[12])
>>> (made, chain(tree, 16))
((True, 4, (0, 0, 2, 0), 'answered', (13, 1, 11, 'sent', (2, 'answer', 3, 2, 'answer', 6))), (16, 15, 14, 11, 9, 4, 3, 1))
"""

SNAPSHOTS = """
>>> from watchtree.logs import entries, inputs, standing
>>> from watchtree.messages import box
>>> from watchtree.plans import SupervisorPlan, WorkerPlan
>>> from watchtree.snapshots import restored, snapshot
>>> from watchtree.trees import Tree
>>> plan = SupervisorPlan("root", WorkerPlan("a"), most=3)
>>> tree = Tree(plan)
>>> made = (tree.run(3), tree.fail("a"), tree.send("a", "hello", 7))
>>> other = restored(plan, snapshot(tree))
>>> (made, tree.run(9), other.run(9), box(other, "a"), inputs(tree)[0], standing(plan, tuple(entries(tree))))
((3, None, 1), 1, 1, (('hello', 7),), (3, 'fail', ('a', 'failed')), 13)
"""


def answer_of(code):
    """What the last line of some code answers or raises, as an example writes it."""
    names = {}
    *lines, last = code
    for line in lines:
        exec(line, names)
    try:
        return repr(eval(last, names))
    except (ValueError, RuntimeError, LookupError) as error:
        return f"raises {type(error).__name__}({', '.join(map(repr, vars(error).values()))})"


class Examples(unittest.TestCase):
    def check(self, example):
        *code, expected = example.strip().splitlines()
        self.assertEqual(answer_of([line.removeprefix(">>> ") for line in code]), expected)

    def test_plans(self):
        self.check(PLANS)

    def test_wrong_settings(self):
        self.check(WRONG_SETTINGS)

    def test_scripts(self):
        self.check(SCRIPTS)

    def test_texts(self):
        self.check(TEXTS)

    def test_trees(self):
        self.check(TREES)

    def test_times(self):
        self.check(TIMES)

    def test_falls(self):
        self.check(FALLS)

    def test_messages(self):
        self.check(MESSAGES)

    def test_links(self):
        self.check(LINKS)

    def test_no_message(self):
        self.check(NO_MESSAGE)

    def test_logs(self):
        self.check(LOGS)

    def test_snapshots(self):
        self.check(SNAPSHOTS)


if __name__ == "__main__":
    unittest.main()
