"""The least kinds row by row, against the trees of both loops."""

import unittest

from foldplans.compare import least_kinds, parting_rows
from foldplans.errors import BadTag, OtherTags
from foldplans.loops import Loop
from foldplans.makers import back_fold, by_tag, earliest, fold, lanes
from foldplans.rowkinds import kinds_at, rows_by_kinds
from foldplans.rowsets import RowSet
from foldplans.rules import rules_of
from tests.loop_texts import DOUBLED, FOLD, SILENT
from tests.pairs_of_loops import drawn_pairs, fit, kinds_of, rows_over
from tests.samples import Soon


def least_at(p, q, row):
    """The least kinds at a row, by the trees."""
    kinds = [kind for kind in kinds_of(p, q) if fit(p.tree(row), q.tree(row), kind)]
    return [kind for kind in kinds if not any(set(rules_of(other)) < set(rules_of(kind)) for other in kinds)]


class TestRowKinds(unittest.TestCase):
    def test_drawn_pairs(self):
        lists = {}
        for number, _, p, q in drawn_pairs(range(1, 640, 2)):
            rows = rows_over(p.tags)
            with Soon():
                told = rows_by_kinds(p, q)
            for kinds, found in told:
                self.assertIs(type(kinds), list)
                self.assertIs(type(found), RowSet)
                self.assertEqual(found.tags, p.tags)
                self.assertTrue(found)
                lists[tuple(kinds)] = True
            for row in rows:
                expected = least_at(p, q, row)
                self.assertEqual(kinds_at(p, q, row), expected)
                self.assertEqual([kinds for kinds, found in told if row in found], [expected], (number, row))
            self.check_order(p, told)
        self.assertGreater(len(lists), 10)

    def test_drawn_pairs_that_are_not_single(self):
        for number, _, p, q in drawn_pairs(range(0, 320, 2)):
            rows = rows_over(p.tags)
            with Soon():
                told = rows_by_kinds(p, q)
            for row in rows:
                expected = least_at(p, q, row)
                self.assertEqual(kinds_at(p, q, row), expected)
                self.assertEqual([kinds for kinds, found in told if row in found], [expected], (number, row))
            self.check_order(p, told)

    def check_order(self, p, told):
        """No list twice; the sets have no row in common, and all rows; in the order of the earliest ones."""
        kinds = [tuple(kinds) for kinds, _ in told]
        self.assertEqual(len(set(kinds)), len(kinds))
        rest = RowSet.every(p.tags)
        keys = []
        for _, found in told:
            self.assertTrue(found <= rest)
            rest = rest - found
            row = found.earliest()
            keys.append((len(row), [p.tags.index(tag) for tag in row]))
        self.assertFalse(rest)
        self.assertEqual(keys, sorted(keys))

    def test_agreement_is_agreement_at_each_row(self):
        for _, _, p, q in drawn_pairs(range(5, 300, 6)):
            told = rows_by_kinds(p, q)
            for kind in kinds_of(p, q):
                apart = RowSet.none(p.tags)
                for kinds, found in told:
                    if not any(set(rules_of(one)) <= set(rules_of(kind)) for one in kinds):
                        apart = apart | found
                self.assertTrue(apart == parting_rows(p, q, kind))

    def test_either_order(self):
        p, q = fold(["t", "u"]), lanes(["t", "u"], 2)
        self.assertTrue(rows_by_kinds(p, q) == rows_by_kinds(q, p))

    def test_answers(self):
        p, q = fold(["t"]), back_fold(["t"])
        self.assertEqual([kinds for kinds, _ in rows_by_kinds(p, q)], [["trees"], ["pairs"]])
        self.assertEqual([kinds for kinds, _ in rows_by_kinds(p, Loop(SILENT))], [["trees"], []])
        self.assertEqual(rows_by_kinds(p, p)[0][0], ["trees"])
        self.assertTrue(rows_by_kinds(p, p)[0][1] == RowSet.every(["t"]))
        self.assertEqual(kinds_at(p, lanes(["t"], 2), ["t"] * 3), ["bags", "lefts"])
        self.assertEqual(kinds_at(p, lanes(["t"], 2), ["t"] * 300), ["bags", "outer"])
        self.assertEqual(kinds_at(fold(["t", "u"]), by_tag(["t", "u"]), ["u", "t"]), ["pairs"])
        self.assertEqual(least_kinds(p, q), ["pairs"])

    def test_no_results_and_one_result(self):
        p, twice = fold(["t"]), Loop(FOLD.replace("a + x", "a + x + x"))
        self.assertEqual(kinds_at(p, p, []), ["trees"])
        self.assertEqual(kinds_at(p, twice, []), ["words"])
        self.assertEqual(kinds_at(p, twice, ["t"]), ["words"])
        self.assertEqual(kinds_at(p, twice, ["t"] * 2), ["middles"])
        self.assertEqual(kinds_at(p, Loop(SILENT), ["t"]), [])
        self.assertEqual(kinds_at(Loop(DOUBLED), Loop(SILENT), ["t"]), ["words"])

    def test_told_lists_are_new(self):
        p = fold(["t"])
        kinds_at(p, p, []).append("one")
        self.assertEqual(kinds_at(p, p, []), ["trees"])
        rows_by_kinds(p, p)[0][0].clear()
        self.assertEqual(rows_by_kinds(p, p)[0][0], ["trees"])

    def test_errors(self):
        p = fold(["t", "u"])
        self.assertRaises(OtherTags, kinds_at, p, fold(["u", "t"]), ["w"])
        self.assertRaises(OtherTags, rows_by_kinds, p, fold(["t"]))
        with self.assertRaises(BadTag) as caught:
            kinds_at(p, earliest(["t", "u"], 1), ["t", "u", "w", "v"])
        self.assertEqual(caught.exception.index, 2)


if __name__ == "__main__":
    unittest.main()
