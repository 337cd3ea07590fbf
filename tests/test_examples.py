"""The examples of the interface, to the letter."""

import unittest

PLANS = """
>>> from watchtree.plans import SupervisorPlan, WorkerPlan, changed, is_root, names, path_to
>>> plan = SupervisorPlan("root", SupervisorPlan("pair", WorkerPlan("left"), WorkerPlan("right", closing=4)), most=2)
>>> (names(plan), path_to(plan, "right"), len(plan), "left" in plan, is_root(plan), changed(plan, "root", most=2) == plan)
(('root', 'pair', 'left', 'right'), ('root', 'pair', 'right'), 4, True, True, True)
"""

WRONG_SETTINGS = """
>>> from watchtree.plans import WorkerPlan
>>> WorkerPlan("left", opening=-1, closing=-1)
raises BadSetting('opening')
"""

SCRIPTS = """
>>> from watchtree.scripts import is_deed, words_of, wrong_row
>>> row = ("first", "q", 2, (("reply", ("plus", 1)),))
>>> (wrong_row((row, row)), words_of((row,)), is_deed(("send", "a", "hello", 0)), is_deed(("send", "a", "told", 0)))
(1, ('q',), True, False)
"""

TEXTS = """
>>> from watchtree.plans import SupervisorPlan, WorkerPlan
>>> from watchtree.texts import plan_text, read_plan
>>> plan = SupervisorPlan("root", WorkerPlan("left", closing=4, deadline=2), strategy="all")
>>> (plan_text(plan), read_plan(plan_text(plan)) == plan)
('supervisor root permanent all 1 10 -\\n  worker left permanent 0 4 2 0', True)
"""

TREES = """
>>> from watchtree.plans import SupervisorPlan, WorkerPlan
>>> from watchtree.trees import Tree
>>> tree = Tree(SupervisorPlan("root", WorkerPlan("a"), WorkerPlan("b", opening=2)))
>>> made = [tree.run(2), tree.fail("a"), tree.run(5), tree.budget("root"), tree.running, tree.fail("a"), tree.run(5)]
>>> (made, tree.is_over, tree.reason_of("root"), tree.entries_count)
([5, None, 3, 0, ('root', 'a', 'b'), None, 5], True, 'gave_up', 19)
"""

TIMES = """
>>> from watchtree.plans import SupervisorPlan, WorkerPlan
>>> from watchtree.times import opening_time, shutdown_told, stopping_time
>>> from watchtree.trees import Tree
>>> inner = SupervisorPlan("inner", WorkerPlan("w", opening=1, closing=2), most=0, span=1, deadline=3)
>>> plan = SupervisorPlan("root", inner, WorkerPlan("v", closing=5, deadline=2), strategy="all", span=5)
>>> tree = Tree(plan)
>>> (tree.run_until_quiet(100), tree.tick, opening_time(plan), stopping_time(plan), shutdown_told(tree))
(True, 1, 1, 4, (('v', 3, 'killed'), ('w', 5, 'shutdown'), ('inner', 5, 'shutdown'), ('root', 5, 'shutdown')))
"""


def answer_of(code):
    """What the last line of some code answers or raises, as an example writes it."""
    names = {}
    *lines, last = code
    for line in lines:
        exec(line, names)
    try:
        return repr(eval(last, names))
    except (ValueError, RuntimeError, LookupError) as error:
        return f"raises {type(error).__name__}({', '.join(map(repr, vars(error).values()))})"


class Examples(unittest.TestCase):
    def check(self, example):
        *code, expected = example.strip().splitlines()
        self.assertEqual(answer_of([line.removeprefix(">>> ") for line in code]), expected)

    def test_plans(self):
        self.check(PLANS)

    def test_wrong_settings(self):
        self.check(WRONG_SETTINGS)

    def test_scripts(self):
        self.check(SCRIPTS)

    def test_texts(self):
        self.check(TEXTS)

    def test_trees(self):
        self.check(TREES)

    def test_times(self):
        self.check(TIMES)


if __name__ == "__main__":
    unittest.main()
