"""The examples of the document and of README.md."""

import doctest
import os
import unittest

from foldplans.compare import least_kinds
from foldplans.costs import cost, greatest_lead, waste
from foldplans.least import width
from foldplans.loops import Loop
from foldplans.makers import back_fold, blocks, earliest, fold, lanes, latest
from foldplans.matchings import is_matching
from foldplans.pieces import Summary
from foldplans.rowkinds import kinds_at, rows_by_kinds
from foldplans.rowsets import RowSet
from foldplans.rules import Rules

README = os.path.join(os.path.dirname(os.path.dirname(os.path.abspath(__file__))), "README.md")


class TestExamples(unittest.TestCase):
    def test_rules(self):
        rules = Rules.of("first", "order")
        self.assertEqual(
            [rules.kind, rules.listed(), rules.closed().listed(), "last" in rules],
            ["sets", ["order", "first"], ["grouping", "order", "middle", "first", "last"], True],
        )

    def test_loops(self):
        loop = Loop(
            "tags t\nsums a\nstate s\non t go r\na = x\nend none\nstate r\non t go r\na = a + x\nend a"
        )
        self.assertEqual([loop.tree(["t", "t", "t"]), loop.tree([])], [((0, 1), 2), None])

    def test_two_sums_that_are_assigned_at_once(self):
        loop = Loop(
            "tags t\nsums a b\nstate s\non t go r\na = x\nb = x\nend none\n"
            "state r\non t go r\na = b\nb = a + x\nend a"
        )
        walk = list(loop.steps([("t", "p"), ("t", "q")], lambda x, y: x + y))
        self.assertEqual(walk[1:], [("r", {"a": "p", "b": "p"}), ("r", {"a": "p", "b": "pq"})])

    def test_rowsets(self):
        rows = RowSet.with_tag(["t", "u"], "u")
        self.assertEqual(
            [rows.how_many(3), rows.earliest(), rows.number(2), rows.rank(["t", "u"]), rows.least_states()],
            [7, ["u"], ["u", "t"], 1, 2],
        )

    def test_costs(self):
        loop = Loop("tags t\nsums a\nstate s\non t go s\na = x + x\nend none")
        self.assertEqual(
            [cost(loop, ["t", "t"]), waste(loop, ["t", "t"]), waste(fold(["t"]), ["t", "t"]),
             greatest_lead(fold(["t"]), loop)],
            [2, 2, 0, 0],
        )

    def test_compare(self):
        plain = fold(["t"])
        self.assertEqual(
            [least_kinds(plain, back_fold(["t"])), least_kinds(plain, lanes(["t"], 2)),
             least_kinds(plain, blocks(["t"], 3))],
            [["pairs"], ["bags", "lefts"], ["words"]],
        )

    def test_rowkinds(self):
        p, q = fold(["t"]), back_fold(["t"])
        found = rows_by_kinds(p, earliest(["t"], 2))
        self.assertEqual(
            [kinds_at(p, q, ["t"]), kinds_at(p, q, ["t", "t"]), found[0][0], found[1][0], found[1][1].earliest()],
            [["trees"], ["pairs"], ["trees"], ["lefts"], ["t", "t", "t"]],
        )

    def test_least(self):
        self.assertEqual(
            [width(lanes(["t"], 2), "words"), width(lanes(["t"], 2), "bags"), width(blocks(["t"], 3), "words"),
             width(latest(["t"], 3), "words")],
            [2, 1, 1, 3],
        )

    def test_matchings(self):
        p = Loop("tags t\nsums a\nstate s\non t go r\na = x\nend none\nstate r\non t go r\na = a + x\nend a")
        q = Loop(
            "tags t\nsums b c\nstate s\non t go r\nb = x\nend none\nstate r\non t go o\nc = b\nb = x\nend b\n"
            "state o\non t go o\nc = c + b\nb = x\nend c + b"
        )
        value = [("s", "s", []), ("r", "r", [("a", "b")]), ("r", "o", [("a", "c + b")])]
        self.assertTrue(is_matching(p, q, "words", value))

    def test_pieces(self):
        loop = Loop("tags t\nsums a\nstate s\non t go r\na = x\nend none\nstate r\non t go r\na = a + x\nend a")
        one, two = Summary(loop, [("t", 1), ("t", 2)], max), Summary(loop, [("t", 3)], max)
        self.assertEqual(
            [one.parts("s", "a"), two.parts("r", "a"), two.parts("s", "a"), Summary(loop, [], max).parts("s", "a"),
             one.then(two).result()],
            [[(2,)], ["a", (3,)], [(3,)], ["a"], 3],
        )

    def test_readme(self):
        told = doctest.testfile(README, module_relative=False)
        self.assertGreater(told.attempted, 0)
        self.assertEqual(told.failed, 0)


if __name__ == "__main__":
    unittest.main()
