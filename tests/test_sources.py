"""The files of the package: they need nothing but the package itself, and no numbers with a point."""

import ast
import unittest
from pathlib import Path

from watchtree.trees import Tree

PACKAGE = Path(__file__).resolve().parent.parent / "watchtree"
LIBRARY = ("heapq", "math", "itertools", "collections")
INTERFACE = {
    "plans": "WorkerPlan SupervisorPlan names plan_at path_to check_root is_root changed",
    "scripts": "is_deed is_script wrong_row row_for words_of",
    "texts": "plan_text read_plan",
    "trees": "Tree",
    "times": "opening_time stopping_time shutdown_told least_deadlines",
    "falls": "attacks fall fewest reach",
    "messages": "status_of question_of answer_of counts box mode_of is_busy does_trap links_of watched_by timers_of "
                "hangs_on rings",
    "logs": "entries chain effects inputs played standing",
    "snapshots": "snapshot restored",
}
METHODS_OF_TREES = """
    __init__ __contains__ __len__ run run_until_quiet fail stop add take_out tick is_over is_quiet next_tick running
    entries_count plan_of state_of number_of reason_of starts_of listed budget noted twin send ask
"""


def nodes():
    """Pairs of the name of a file and a node of its code, for all files of the package."""
    for path in sorted(PACKAGE.rglob("*.py")):
        for node in ast.walk(ast.parse(path.read_text(encoding="utf-8"))):
            yield path.name, node


class Sources(unittest.TestCase):
    def test_the_package_is_one_folder_with_an_init(self):
        self.assertTrue((PACKAGE / "__init__.py").is_file())
        for name in ("errors", *INTERFACE):
            self.assertTrue((PACKAGE / f"{name}.py").is_file())

    def test_each_function_and_class_is_defined_in_its_file(self):
        for name, told in INTERFACE.items():
            tree = ast.parse((PACKAGE / f"{name}.py").read_text(encoding="utf-8"))
            defined = {node.name for node in tree.body if isinstance(node, (ast.FunctionDef, ast.ClassDef))}
            self.assertLessEqual(set(told.split()), defined, name)

    def test_each_method_of_a_tree_is_defined_in_its_class(self):
        for name in METHODS_OF_TREES.split():
            self.assertIn(name, vars(Tree))

    def test_sizes_and_signs(self):
        for path in PACKAGE.rglob("*.py"):
            lines = path.read_text(encoding="utf-8").splitlines()
            self.assertLess(len(lines), 400, path.name)
            for line in lines:
                self.assertLessEqual(len(line), 120, path.name)
                self.assertTrue(all(" " <= sign <= "~" for sign in line), path.name)
        for name, node in nodes():
            if isinstance(node, ast.FunctionDef):
                self.assertLessEqual(node.end_lineno - node.lineno + 1, 40, (name, node.name))

    def test_no_clock_no_random_numbers_no_files(self):
        for name, node in nodes():
            self.assertNotIsInstance(node, ast.Import, name)
            if isinstance(node, ast.ImportFrom):
                first = node.module.partition(".")[0]
                self.assertEqual(node.level, 0, name)
                self.assertIn(first, ("watchtree",) + LIBRARY, name)
            if isinstance(node, ast.Name):
                self.assertNotIn(node.id, ("open", "input", "print", "exec", "eval"), name)

    def test_no_floating_point_numbers(self):
        for name, node in nodes():
            if isinstance(node, ast.Constant):
                self.assertNotIsInstance(node.value, (float, complex), name)
            self.assertNotIsInstance(node, ast.Div, name)
            if isinstance(node, ast.Name):
                self.assertNotIn(node.id, ("float", "round"), name)


if __name__ == "__main__":
    unittest.main()
