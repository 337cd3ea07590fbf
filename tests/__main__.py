"""Runs every test of this folder and of ../shared/tests, and ends with the line `N passed, N failed`."""

import sys
import unittest
from pathlib import Path

ROOT = Path(__file__).resolve().parent.parent
SHARED = ROOT.parent / "shared" / "tests"


class CountingResult(unittest.TextTestResult):
    """Counts tests; the lists of the base class hold a test once for each of its subtests that fails."""

    def __init__(self, *args, **kwargs):
        super().__init__(*args, **kwargs)
        self.passed = 0

    def addSuccess(self, test):
        super().addSuccess(test)
        self.passed += 1

    def addExpectedFailure(self, test, err):
        super().addExpectedFailure(test, err)
        self.passed += 1

    def failed(self):
        told = [test for test, _ in self.failures + self.errors] + self.unexpectedSuccesses
        return len({getattr(test, "test_case", test).id() for test in told})


def suite():
    tests = unittest.TestSuite()
    tests.addTest(unittest.TestLoader().discover(str(ROOT / "tests"), "test_*.py", str(ROOT)))
    if SHARED.is_dir() and any(SHARED.glob("test_*.py")):
        tests.addTest(unittest.TestLoader().discover(str(SHARED), "test_*.py"))
    return tests


def main():
    result = unittest.TextTestRunner(stream=sys.stdout, resultclass=CountingResult).run(suite())
    failed = result.failed()
    print(f"{result.passed} passed, {failed} failed")
    return 0 if result.passed > 0 and failed == 0 and result.wasSuccessful() else 1


if __name__ == "__main__":
    sys.exit(main())
