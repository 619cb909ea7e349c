"""Runs every test_*.py below some folders; the last line tells how many passed and failed."""

import importlib.util
import sys
import traceback
import unittest
from pathlib import Path

ROOT = Path(__file__).resolve().parent.parent


def load_file(path, number):
    """Return the tests of a file, or one that fails if the file cannot be imported."""
    # Files of two folders may have the same name, so each one gets a module name of its own.
    name = f"run_{number}_{path.stem}"
    if str(path.parent) not in sys.path:
        sys.path.append(str(path.parent))
    spec = importlib.util.spec_from_file_location(name, path)
    module = importlib.util.module_from_spec(spec)
    sys.modules[name] = module
    try:
        spec.loader.exec_module(module)
    except (Exception, SystemExit):
        return broken_file(path, traceback.format_exc())
    return unittest.defaultTestLoader.loadTestsFromModule(module)


def broken_file(path, why):
    def fail():
        raise ImportError(f"{path} cannot be imported:\n{why}")
    return unittest.FunctionTestCase(fail, description=str(path))


class Result(unittest.TextTestResult):
    """Counts a test once, however many of its subtests fail."""

    def __init__(self, *given, **more):
        super().__init__(*given, **more)
        # A test is kept while it is listed, so that no other one can have its id.
        self.failed = {}

    def add_failed(self, test):
        self.failed[id(test)] = test

    def addError(self, test, err):
        super().addError(test, err)
        self.add_failed(test)

    def addFailure(self, test, err):
        super().addFailure(test, err)
        self.add_failed(test)

    def addUnexpectedSuccess(self, test):
        super().addUnexpectedSuccess(test)
        self.add_failed(test)

    def addSubTest(self, test, subtest, err):
        super().addSubTest(test, subtest, err)
        if err is not None:
            self.add_failed(test)


def main(folders):
    sys.path.insert(0, str(ROOT))
    suite = unittest.TestSuite()
    paths = [path for folder in folders for path in sorted((ROOT / folder).rglob("test_*.py"))]
    for number, path in enumerate(paths):
        suite.addTest(load_file(path, number))
    result = unittest.TextTestRunner(stream=sys.stdout, resultclass=Result).run(suite)
    failed = len(result.failed)
    passed = result.testsRun - failed - len(result.skipped)
    if result.testsRun == 0:
        print("there are no tests")
        failed = 1
    print(f"{max(passed, 0)} passed, {failed} failed", flush=True)
    return 1 if failed else 0


if __name__ == "__main__":
    sys.exit(main(sys.argv[1:]))
