"""The files of the package: they need nothing but the package itself, and no numbers with a point."""

import ast
import unittest
from pathlib import Path

PACKAGE = Path(__file__).resolve().parent.parent / "watchtree"
LIBRARY = ("heapq", "math", "itertools", "collections")


def nodes():
    """Pairs of the name of a file and a node of its code, for all files of the package."""
    for path in sorted(PACKAGE.rglob("*.py")):
        for node in ast.walk(ast.parse(path.read_text(encoding="utf-8"))):
            yield path.name, node


class Sources(unittest.TestCase):
    def test_the_package_is_one_folder_with_an_init(self):
        self.assertTrue((PACKAGE / "__init__.py").is_file())
        for name in ("errors", "scripts", "plans"):
            self.assertTrue((PACKAGE / f"{name}.py").is_file())

    def test_no_clock_no_random_numbers_no_files(self):
        for name, node in nodes():
            self.assertNotIsInstance(node, ast.Import, name)
            if isinstance(node, ast.ImportFrom):
                first = node.module.partition(".")[0]
                self.assertEqual(node.level, 0, name)
                self.assertIn(first, ("watchtree",) + LIBRARY, name)
            if isinstance(node, ast.Name):
                self.assertNotIn(node.id, ("open", "input", "print", "exec", "eval"), name)

    def test_no_floating_point_numbers(self):
        for name, node in nodes():
            if isinstance(node, ast.Constant):
                self.assertNotIsInstance(node.value, (float, complex), name)
            self.assertNotIsInstance(node, ast.Div, name)
            if isinstance(node, ast.Name):
                self.assertNotIn(node.id, ("float", "round"), name)


if __name__ == "__main__":
    unittest.main()
