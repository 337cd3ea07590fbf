"""The script .ci/run: it runs the tests of the project and the shared ones, and fails if one fails."""

import os
import shutil
import subprocess
import tempfile
import unittest
from pathlib import Path

ROOT = Path(__file__).resolve().parent.parent

PASSES = """
import unittest
import watchtree

class Some(unittest.TestCase):
    def test_passes(self):
        pass
"""
FAILS = PASSES + """
    def test_fails(self):
        self.assertEqual(1, 2)
"""
FAILS_TWICE = PASSES + """
    def test_fails(self):
        for at in range(2):
            with self.subTest(at=at):
                self.assertEqual(at, 7)
"""
BREAKS = "import watchtree.nothing\n"


class Run(unittest.TestCase):
    def setUp(self):
        self.top = Path(tempfile.mkdtemp())
        self.addCleanup(shutil.rmtree, self.top)
        main = self.top / "main"
        for path in (".ci/run", "tests/__init__.py", "tests/__main__.py", "watchtree/__init__.py"):
            (main / path).parent.mkdir(parents=True, exist_ok=True)
            shutil.copy(ROOT / path, main / path)

    def write(self, path, text):
        (self.top / path).parent.mkdir(parents=True, exist_ok=True)
        (self.top / path).write_text(text, encoding="utf-8")

    def check(self, passed, failed):
        """The script, started in another folder, counts so many tests and passes if none fails."""
        made = subprocess.run(["bash", str(self.top / "main" / ".ci" / "run")], cwd=self.top, capture_output=True,
                              text=True, stdin=subprocess.DEVNULL, env={**os.environ, "CI": "true"}, check=False)
        self.assertEqual(made.stdout.splitlines()[-1], f"{passed} passed, {failed} failed", made.stderr)
        self.assertEqual(made.returncode == 0, failed == 0 and passed > 0)

    def test_all_tests_of_the_project_are_run(self):
        self.write("main/tests/test_one.py", PASSES)
        self.write("main/tests/test_two.py", PASSES)
        self.check(2, 0)

    def test_a_test_of_the_project_that_fails(self):
        self.write("main/tests/test_one.py", PASSES)
        self.write("main/tests/test_two.py", FAILS)
        self.check(2, 1)

    def test_a_file_of_the_project_that_breaks(self):
        self.write("main/tests/test_one.py", PASSES)
        self.write("main/tests/test_two.py", BREAKS)
        self.check(1, 1)

    def test_shared_tests_are_run_also_with_the_name_of_one_of_the_project(self):
        self.write("main/tests/test_one.py", PASSES)
        self.write("shared/tests/test_one.py", PASSES)
        self.write("shared/tests/test_two.py", PASSES)
        self.check(3, 0)

    def test_a_shared_test_that_fails(self):
        self.write("main/tests/test_one.py", PASSES)
        self.write("shared/tests/test_one.py", FAILS)
        self.check(2, 1)

    def test_a_shared_file_that_breaks(self):
        self.write("main/tests/test_one.py", PASSES)
        self.write("shared/tests/test_two.py", BREAKS)
        self.check(1, 1)

    def test_a_shared_folder_without_tests(self):
        self.write("main/tests/test_one.py", PASSES)
        self.write("shared/tests/README.md", "No tests yet.")
        self.check(1, 0)

    def test_a_test_counts_once_whatever_it_fails_in(self):
        self.write("main/tests/test_one.py", FAILS_TWICE)
        self.check(1, 1)

    def test_no_test_is_no_success(self):
        self.check(0, 0)


if __name__ == "__main__":
    unittest.main()
