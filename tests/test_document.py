"""The examples of the document, as they stand there."""

import unittest

from tests.document import check_examples, examples


# How many lines of code the examples of each part have.
EXAMPLES = {"a": 9, "b": 28, "c": 25, "d": 24, "e": 24, "f": 21, "g": 19, "h": 27, "i": 29}


class TestExamples(unittest.TestCase):

    def test_each_part(self):
        for part, many in EXAMPLES.items():
            with self.subTest(part=part):
                self.assertEqual(len(examples(f"document_{part}.txt")), many)
                check_examples(self, f"document_{part}.txt")


if __name__ == "__main__":
    unittest.main()
