"""The examples of the document, as they stand there, and those of README.md."""

import builtins
import doctest
import unittest
from pathlib import Path

from tests.document import check_examples, examples


# How many lines of code the examples of each part have.
EXAMPLES = {"a": 9, "b": 28, "c": 25, "d": 24, "e": 24, "f": 21, "g": 19, "h": 27, "i": 29, "j": 13, "k": 16, "l": 19}


class TestExamples(unittest.TestCase):

    def test_each_part(self):
        for part, many in EXAMPLES.items():
            with self.subTest(part=part):
                self.assertEqual(len(examples(f"document_{part}.txt")), many)
                check_examples(self, f"document_{part}.txt")

    def test_readme(self):
        # What is shown leaves the name _ behind among the builtins.
        self.addCleanup(vars(builtins).pop, "_", None)
        told = doctest.testfile(str(Path(__file__).parent.parent / "README.md"), module_relative=False)
        self.assertGreater(told.attempted, 40)
        self.assertEqual(told.failed, 0)


if __name__ == "__main__":
    unittest.main()
