"""Run every file test_*.py below the folders given, and say how many tests ran.

Run it from the top of the repository: that makes the program importable. The
first folder must hold a test, the others may be missing or empty.
"""

import re
import subprocess
import sys
from pathlib import Path


def run_file(path):
    """Run the tests of one file; return how many passed and how many failed."""
    # A process for each file: two folders may have files of the same name.
    done = subprocess.run(
        [sys.executable, "-B", "-m", "unittest", "discover", "-s", path.parent, "-t", path.parent, "-p", path.name],
        stdin=subprocess.DEVNULL, stdout=subprocess.PIPE, stderr=subprocess.STDOUT, text=True,
    )
    ran = re.search(r"^Ran (\d+) tests? in ", done.stdout, re.MULTILINE)
    count = int(ran.group(1)) if ran else 0
    # Without a single test a file was not run as it should have been.
    if done.returncode == 0 and count > 0:
        print(f"{path}: {count} tests passed", flush=True)
        return count, 0
    print(f"{path}: FAILED\n{done.stdout}", flush=True)
    wrong = sum(int(many) for many in re.findall(r"(?:failures|errors|successes)=(\d+)", done.stdout))
    failed = max(1, min(wrong, count))
    return max(0, count - failed), failed


def main(folders):
    """Run the tests of all folders; return the exit code."""
    files = [sorted(Path(folder).rglob("test_*.py")) for folder in folders]
    if not files or not files[0]:
        print("the project has no test")
        return 1
    passed = failed = 0
    for path in [path for found in files for path in found]:
        more_passed, more_failed = run_file(path)
        passed += more_passed
        failed += more_failed
    print(f"{passed} passed, {failed} failed")
    return 1 if failed else 0


if __name__ == "__main__":
    sys.exit(main(sys.argv[1:]))
