"""Runs each file test_*.py below the folders that are named, and fails if one test fails."""

import importlib.util
import sys
import unittest
from pathlib import Path

ROOT = Path(__file__).resolve().parent.parent


def load_file(path, name):
    """Load one test file under a name of its own: files of two folders may be called alike."""
    if str(path.parent) not in sys.path:
        # Right behind the project itself: what stands beside a test file is found ahead of other folders.
        sys.path.insert(1, str(path.parent))
    spec = importlib.util.spec_from_file_location(name, path)
    module = importlib.util.module_from_spec(spec)
    sys.modules[name] = module
    spec.loader.exec_module(module)
    return unittest.defaultTestLoader.loadTestsFromModule(module)


def broken_file(path, error):
    """A test in the place of a file that can't be loaded, so that it counts as failed."""
    def fail():
        raise error
    return unittest.FunctionTestCase(fail, description=f"{path} is loaded")


def gather(folder, place):
    """All tests of the files below a folder."""
    suite = unittest.TestSuite()
    for number, path in enumerate(sorted(folder.rglob("test_*.py"))):
        try:
            suite.addTest(load_file(path, f"folder{place}_file{number}_{path.stem}"))
        except (Exception, SystemExit) as error:
            suite.addTest(broken_file(path, error))
    return suite


def run(names):
    """Run the tests below all folders; tell how many passed and failed, and whether all is well."""
    whole = unittest.TestSuite()
    counts = []
    for place, name in enumerate(names):
        folder = (ROOT / name).resolve()
        if not folder.is_dir():
            print(f"there is no folder {name}")
            return False
        suite = gather(folder, place)
        counts.append((name, suite.countTestCases()))
        whole.addTest(suite)
    result = unittest.TextTestRunner(stream=sys.stdout).run(whole)
    for name, count in counts:
        print(f"{name}: {count} tests")
    # A test counts once as failed, however many of its parts fail.
    bad = result.failures + result.errors
    failed = len({test_name(case) for case, trace in bad}) + len(result.unexpectedSuccesses)
    skipped = len(result.skipped)
    print(f"{max(result.testsRun - failed - skipped, 0)} passed, {failed} failed, {skipped} skipped")
    return result.wasSuccessful() and counts[0][1] > 0


def test_name(case):
    """The name of the test that a failed part belongs to."""
    return getattr(case, "test_case", case).id()


if __name__ == "__main__":
    sys.path.insert(0, str(ROOT))
    sys.exit(0 if run(sys.argv[1:]) else 1)
