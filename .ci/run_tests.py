"""Runs the tests of each folder in a process of its own and adds up what passed and failed.

Without an argument: all folders. With one: the tests of this folder, whose last line of
output tells the two numbers. Folders are parted since their files may have equal names.
"""

import pathlib
import subprocess
import sys
import unittest

ROOT = pathlib.Path(__file__).resolve().parent.parent
OWN = ROOT / "tests"
SHARED = ROOT.parent / "shared" / "tests"


class CountingResult(unittest.TextTestResult):
    def __init__(self, *args, **kwargs):
        super().__init__(*args, **kwargs)
        self.passed = 0

    def addSuccess(self, test):
        super().addSuccess(test)
        self.passed += 1


def test_folders():
    """The project's folder, then each folder under the shared one that discovery has to begin at."""
    found = {path.parent for path in SHARED.rglob("test_*.py")}
    nested = {folder for folder in found if folder != SHARED and (folder / "__init__.py").exists()}
    return [OWN, *sorted(found - nested | ({SHARED} if nested else set()))]


def run_folder(folder):
    sys.path.insert(0, str(ROOT))
    suite = unittest.defaultTestLoader.discover(folder, pattern="test_*.py", top_level_dir=folder)
    runner = unittest.TextTestRunner(stream=sys.stdout, resultclass=CountingResult)
    result = runner.run(suite)
    failed = len(result.failures) + len(result.errors) + len(result.unexpectedSuccesses)
    print(result.passed, failed, flush=True)
    return 1 if failed else 0


def counts_of(folder):
    """What passed and failed in a folder; a process that ends without counts counts as failed."""
    command = [sys.executable, "-B", __file__, str(folder)]
    done = subprocess.run(command, cwd=ROOT, stdout=subprocess.PIPE, text=True)
    lines = done.stdout.splitlines() or [""]
    print(f"{folder}:", *lines[:-1], sep="\n", flush=True)
    words = lines[-1].split()
    if len(words) != 2 or not all(word.isdigit() for word in words):
        print(lines[-1], f"(ended with {done.returncode})", flush=True)
        return 0, 1
    passed, failed = int(words[0]), int(words[1])
    return passed, max(failed, 1 if done.returncode else 0)


def main():
    if len(sys.argv) == 2:
        return run_folder(sys.argv[1])
    passed = failed = 0
    for folder in test_folders():
        right, wrong = counts_of(folder)
        if folder == OWN and right + wrong == 0:
            print("the project has no tests")
            wrong = 1
        passed, failed = passed + right, failed + wrong
    print(f"tests passed: {passed}, tests failed: {failed}")
    return 1 if failed else 0


if __name__ == "__main__":
    sys.exit(main())
