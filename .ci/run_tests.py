"""Runs each file of tests in a Python of its own, so that no two of them can meet, and adds up what they tell."""

import concurrent.futures
import os
import pathlib
import re
import subprocess
import sys
import unittest

ROOT = pathlib.Path(__file__).resolve().parent.parent
OWN_TESTS = ROOT / "tests"
SHARED_TESTS = ROOT.parent / "shared" / "tests"
COUNTS = re.compile(r"^COUNTS ([0-9]+) ([0-9]+) ([0-9]+)$", re.MULTILINE)


def run_file(path):
    """Run the tests of one file in this Python, and print how many passed, failed and were skipped."""
    # The folder of the tests comes first, for what they share; the root has the package.
    sys.path[:0] = [str(path.parent), str(ROOT)]
    result = unittest.TextTestRunner(stream=sys.stdout, verbosity=1).run(
        unittest.defaultTestLoader.loadTestsFromName(path.stem))
    failed = len({case.id() for case, _ in result.failures + result.errors} | {case.id() for case in result.unexpectedSuccesses})
    failed = max(failed, 0 if result.wasSuccessful() else 1)
    passed = max(result.testsRun - failed - len(result.skipped), 0)
    print(f"COUNTS {passed} {failed} {len(result.skipped)}", flush=True)


def told_by(path):
    """What a file of tests printed and its counts; one that ended without counts failed."""
    done = subprocess.run([sys.executable, __file__, str(path)], cwd=ROOT, stdin=subprocess.DEVNULL,
                          stdout=subprocess.PIPE, stderr=subprocess.STDOUT, text=True, errors="replace")
    found = COUNTS.findall(done.stdout)
    if done.returncode != 0 or not found:
        return done.stdout, (0, 1, 0)
    return done.stdout, tuple(int(count) for count in found[-1])


def run_all():
    """Run all files of tests, and tell whether all passed and the project has some."""
    files = sorted(OWN_TESTS.rglob("test_*.py")) + sorted(SHARED_TESTS.rglob("test_*.py"))
    totals = [0, 0, 0]
    own = 0
    with concurrent.futures.ThreadPoolExecutor(os.cpu_count() or 1) as pool:
        for path, (printed, counts) in zip(files, pool.map(told_by, files)):
            print(f"== {os.path.relpath(path, ROOT)}\n{printed.rstrip()}", flush=True)
            totals = [total + count for total, count in zip(totals, counts)]
            own += counts[0] if OWN_TESTS in path.parents else 0
    if own == 0:
        print("No test of the project passed.")
    print(f"{totals[0]} passed, {totals[1]} failed, {totals[2]} skipped")
    return own > 0 and totals[1] == 0


if __name__ == "__main__":
    if len(sys.argv) == 2:
        run_file(pathlib.Path(sys.argv[1]))
    else:
        sys.exit(0 if run_all() else 1)
