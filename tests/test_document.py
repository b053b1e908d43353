"""The examples of the document, as they stand there."""

import unittest

from tests.document import check_examples, examples


class TestExamples(unittest.TestCase):

    def test_part_a(self):
        self.assertEqual(len(examples("document_a.txt")), 9)
        check_examples(self, "document_a.txt")

    def test_part_b(self):
        self.assertEqual(len(examples("document_b.txt")), 28)
        check_examples(self, "document_b.txt")


if __name__ == "__main__":
    unittest.main()
