"""Test of the examples in README.md."""

import doctest
import unittest
from pathlib import Path

README = Path(__file__).resolve().parent.parent / "README.md"


class ReadmeTest(unittest.TestCase):
    def test_examples(self):
        # A fence that ends an example would count as a line of its answer.
        text = README.read_text(encoding="utf-8").replace("```", "")
        examples = doctest.DocTestParser().get_doctest(text, {}, "README.md", "README.md", 0)
        self.assertGreater(len(examples.examples), 5)
        self.assertEqual(doctest.DocTestRunner().run(examples).failed, 0)


if __name__ == "__main__":
    unittest.main()
