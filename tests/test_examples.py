"""The examples of the interface, to the letter."""

import unittest

PLANS = """
>>> from watchtree.plans import SupervisorPlan, WorkerPlan, changed, is_root, names, path_to
>>> plan = SupervisorPlan("root", SupervisorPlan("pair", WorkerPlan("left"), WorkerPlan("right", closing=4)), most=2)
>>> (names(plan), path_to(plan, "right"), len(plan), "left" in plan, is_root(plan), changed(plan, "root", most=2) == plan)
(('root', 'pair', 'left', 'right'), ('root', 'pair', 'right'), 4, True, True, True)
"""

WRONG_SETTINGS = """
>>> from watchtree.plans import WorkerPlan
>>> WorkerPlan("left", opening=-1, closing=-1)
raises BadSetting('opening')
"""

SCRIPTS = """
>>> from watchtree.scripts import is_deed, words_of, wrong_row
>>> row = ("first", "q", 2, (("reply", ("plus", 1)),))
>>> (wrong_row((row, row)), words_of((row,)), is_deed(("send", "a", "hello", 0)), is_deed(("send", "a", "told", 0)))
(1, ('q',), True, False)
"""


def answer_of(code):
    """What the last line of some code answers or raises, as an example writes it."""
    names = {}
    *lines, last = code
    for line in lines:
        exec(line, names)
    try:
        return repr(eval(last, names))
    except (ValueError, RuntimeError, LookupError) as error:
        return f"raises {type(error).__name__}({', '.join(map(repr, vars(error).values()))})"


class Examples(unittest.TestCase):
    def check(self, example):
        *code, expected = example.strip().splitlines()
        self.assertEqual(answer_of([line.removeprefix(">>> ") for line in code]), expected)

    def test_plans(self):
        self.check(PLANS)

    def test_wrong_settings(self):
        self.check(WRONG_SETTINGS)

    def test_scripts(self):
        self.check(SCRIPTS)


if __name__ == "__main__":
    unittest.main()
