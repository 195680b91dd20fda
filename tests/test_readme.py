"""What README.md shows is what the program does."""

import builtins
import doctest
import re
import unittest

from helpers import PACKAGE, ROOT


class Readme(unittest.TestCase):
    def test_examples(self):
        # What an example shows is kept as a builtin by Python itself.
        self.addCleanup(vars(builtins).pop, "_", None)
        results = doctest.testfile(str(ROOT / "README.md"), module_relative=False)
        self.assertGreater(results.attempted, 20)
        self.assertEqual(results.failed, 0)

    def test_all_modules_are_named(self):
        text = (ROOT / "README.md").read_text(encoding="utf-8")
        named = set(re.findall(r"`onescore\.(\w+)`", text))
        self.assertEqual(named, {path.stem for path in PACKAGE.glob("*.py")} - {"__init__"})


if __name__ == "__main__":
    unittest.main()
