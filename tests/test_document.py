"""The examples of the document and of README.md."""

import doctest
import os
import unittest

from foldplans.rules import Rules

README = os.path.join(os.path.dirname(os.path.dirname(os.path.abspath(__file__))), "README.md")


class TestExamples(unittest.TestCase):
    def test_rules(self):
        rules = Rules.of("first", "order")
        self.assertEqual(
            [rules.kind, rules.listed(), rules.closed().listed(), "last" in rules],
            ["sets", ["order", "first"], ["grouping", "order", "middle", "first", "last"], True],
        )

    def test_readme(self):
        told = doctest.testfile(README, module_relative=False)
        self.assertGreater(told.attempted, 0)
        self.assertEqual(told.failed, 0)


if __name__ == "__main__":
    unittest.main()
