"""Short ways to make trees, and to tell what happened in them."""

import unittest

from watchtree.logs import entries
from watchtree.plans import SupervisorPlan, WorkerPlan
from watchtree.trees import Tree


def log_of(tree):
    """The list of the entries of a tree."""
    return list(entries(tree))


def told(tree, since=0):
    """The entries behind one with this number, as lines: the tick, the word and the data."""
    return [" ".join(str(item) for item in (tick, word) + data)
            for number, tick, _, word, data in log_of(tree) if number > since]


def lines_with(tree, *words):
    """The lines of the log with one of these words of entries."""
    return [line for line in told(tree) if line.split()[1] in words]


def told_with_causes(tree, since=0):
    """The entries behind one with this number, as lines: the number, the cause, the word and the data."""
    return [" ".join(str(item) for item in (number, cause, word) + data)
            for number, _, cause, word, data in log_of(tree) if number > since]


def worker(name, *rows, **settings):
    """A worker plan with these rows as its script."""
    return WorkerPlan(name, script=rows, **settings)


def row(word, *deeds, mode="first", work=1):
    """A row of a script."""
    return (mode, word, work, deeds)


def root(*children, **settings):
    """A plan with the name root."""
    return SupervisorPlan("root", *children, **settings)


def ran(plan, tick=0):
    """A tree with this plan, run to a tick."""
    tree = Tree(plan)
    tree.run(tick)
    return tree


class TreeCase(unittest.TestCase):
    """A test that compares logs of trees with lines."""

    maxDiff = None

    def check_log(self, tree, text, since=0):
        """The entries behind one with this number are those of the lines of a text."""
        self.assertEqual(told(tree, since), [line.strip() for line in text.strip().splitlines()])

    def check_raises(self, error, call, *arguments):
        """The call raises just this error, with these fields."""
        with self.assertRaises(type(error)) as caught:
            call(*arguments)
        self.assertIs(type(caught.exception), type(error))
        self.assertEqual(vars(caught.exception).keys(), vars(error).keys())
        for field, value in vars(error).items():
            self.assertIs(getattr(caught.exception, field), value)
