"""Runs the tests of the project and those under ../shared/tests, and fails if one fails or none was run."""

import pathlib
import sys
import unittest

ROOT = pathlib.Path(__file__).resolve().parent.parent
SHARED = ROOT.parent / "shared" / "tests"


def suites():
    """A suite for each folder of tests. The shared ones import the program by its module names."""
    yield unittest.TestLoader().discover(str(ROOT / "tests"), top_level_dir=str(ROOT))
    for folder in sorted({file.parent for file in SHARED.rglob("test_*.py")}):
        # Two folders may have files of one name.
        for name in [file.stem for file in folder.glob("test_*.py")]:
            sys.modules.pop(name, None)
        sys.path.insert(0, str(folder))
        yield unittest.TestLoader().loadTestsFromNames(sorted(file.stem for file in folder.glob("test_*.py")))
        sys.path.remove(str(folder))


def main():
    sys.path.insert(0, str(ROOT))
    passed = failed = 0
    for suite in suites():
        result = unittest.TextTestRunner(stream=sys.stdout, verbosity=1).run(suite)
        bad = len(result.failures) + len(result.errors) + len(result.unexpectedSuccesses)
        failed += bad
        passed += max(result.testsRun - bad - len(result.skipped), 0)
    print(f"{passed} passed, {failed} failed")
    return 1 if failed or not passed else 0


if __name__ == "__main__":
    sys.exit(main())
