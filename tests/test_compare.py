"""Agreement, partings and parting rows, against a search over all rows up to a length."""

import unittest

from foldplans.compare import Parting, agree, least_kinds, parting, parting_rows, result_rows
from foldplans.errors import Doubled, NoKind, OtherTags
from foldplans.loops import Loop
from foldplans.makers import back_fold, blocks, earliest, fold, lanes, latest
from foldplans.rules import all_kinds, rules_of
from foldplans.tables import Table
from tests.loop_texts import DOUBLED, FOLD, SILENT
from tests.pairs_of_loops import counted, drawn_pairs, fit, kinds_of, parting_rows_up_to, rows_over
from tests.samples import Soon

# A change of the last step that a kind tells from putting the item behind.
UNLIKE = {kind: "x + a" for kind in ("trees", "words", "middles", "heads", "tails", "outer", "lefts", "rights")}
UNLIKE.update({kind: "a" for kind in ("pairs", "bags", "parity", "sets")}, one="none")


def least(kinds):
    """Those kinds that no other one is weaker than."""
    return [
        kind for kind in kinds if not any(set(rules_of(other)) < set(rules_of(kind)) for other in kinds)
    ]


class PartingCase(unittest.TestCase):
    def check_parting(self, p, q, kind, shown):
        """What a parting has to be, whatever list and table were taken."""
        self.assertIsInstance(shown, Parting)
        self.assertIs(type(shown.given), list)
        self.assertIs(type(shown.table), Table)
        self.assertLessEqual(shown.table.size, 30)
        for rule in rules_of(kind):
            self.assertIs(shown.table.breaks(rule), None, (kind, rule))
        for item in shown.given:
            self.assertIs(type(item), tuple)
            self.assertIn(item[1], range(shown.table.size))
        results = (p.run(shown.given, shown.table), q.run(shown.given, shown.table))
        self.assertEqual(shown.results, results)
        self.assertIs(type(shown.results), tuple)
        self.assertNotEqual(*results)
        row = [tag for tag, _ in shown.given]
        self.assertFalse(fit(p.tree(row), q.tree(row), kind))


class TestSearch(PartingCase):
    def test_drawn_pairs(self):
        agreed = 0
        for number, _, p, q in drawn_pairs(range(450)):
            rows = rows_over(p.tags)
            kinds = kinds_of(p, q)
            agreeing = []
            for kind in kinds:
                apart = parting_rows_up_to(p, q, kind, rows)
                told = parting_rows(p, q, kind)
                self.assertEqual([row for row in rows if row in told], apart, (number, kind))
                shown = parting(p, q, kind)
                self.assertEqual(agree(p, q, kind), shown is None)
                self.assertEqual(bool(told), shown is not None)
                if shown is None:
                    agreeing.append(kind)
                else:
                    self.check_parting(p, q, kind, shown)
                    self.assertEqual(len(shown.given), len(told.earliest()), (number, kind))
                    if apart:
                        self.assertEqual(len(shown.given), len(apart[0]))
            self.assertEqual(least_kinds(p, q), least(agreeing), number)
            agreed += len(agreeing)
        self.assertGreater(agreed, 700)

    def test_either_order_and_a_loop_with_itself(self):
        for number, kind, p, q in drawn_pairs(range(0, 400, 3)):
            kind = kind if kind in kinds_of(p, q) else "words"
            self.assertTrue(agree(p, p, kind))
            self.assertTrue(parting_rows(p, q, kind) == parting_rows(q, p, kind), number)
            self.assertEqual(agree(p, q, kind), agree(q, p, kind))
            self.assertEqual(least_kinds(p, q), least_kinds(q, p))

    def test_drawn_pairs_that_were_written_otherwise_agree(self):
        for number, kind, p, q in drawn_pairs([number for number in range(900) if number % 5 < 2]):
            if number % 5 == 0:
                self.assertTrue(agree(p, q, kinds_of(p, q)[0]), number)
            elif kind in kinds_of(p, q):
                self.assertTrue(agree(p, q, kind), (number, kind))

    def test_kinds_hang_together(self):
        for number, _, p, q in drawn_pairs(range(1, 500, 2)):
            holds = {kind: agree(p, q, kind) for kind in kinds_of(p, q)}
            for kind in holds:
                for other in holds:
                    if set(rules_of(kind)) <= set(rules_of(other)) and holds[kind]:
                        self.assertTrue(holds[other], (number, kind, other))
            self.assertEqual(holds["middles"], holds["heads"] and holds["tails"])
            self.assertEqual(holds["outer"], holds["lefts"] and holds["rights"])
            if p.is_single and q.is_single:
                same = [holds[kind] == holds["words"] for kind in ("middles", "heads", "tails")]
                same += [holds[kind] == holds["bags"] for kind in ("parity", "sets")]
                self.assertTrue(all(same), number)


class TestLatePartings(PartingCase):
    def test_pairs_that_part_at_one_length_alone(self):
        for kind in all_kinds():
            for last in (2, 3, 5, 11, 18):
                p, q = Loop(counted(last, "a + x")), Loop(counted(last, UNLIKE[kind]))
                with Soon():
                    shown = parting(p, q, kind)
                    rows = parting_rows(p, q, kind)
                self.check_parting(p, q, kind, shown)
                self.assertEqual(len(shown.given), last)
                self.assertEqual([rows.how_many(last), rows.how_many(last - 1)], [2**last, 0])
                self.assertTrue(rows.is_finite())

    def test_grouping_alone_at_one_length(self):
        for last in (3, 7, 18):
            lines = counted(last, "a + x").split("\n")
            at = [place for place, line in enumerate(lines) if line == "a = a + x"][-4:]
            for place in at[:2]:
                lines[place] = "b = x"
            for place in at[2:]:
                lines[place] = "a = ( a + b ) + x"
            other = ["a = a + ( b + x )" if line == "a = ( a + b ) + x" else line for line in lines]
            p, q = Loop("\n".join(lines)), Loop("\n".join(other))
            self.assertEqual([agree(p, q, "trees"), agree(p, q, "pairs"), agree(p, q, "words")], [False, False, True])
            for kind in ("trees", "pairs"):
                shown = parting(p, q, kind)
                self.check_parting(p, q, kind, shown)
                self.assertEqual(len(shown.given), last)
            self.assertEqual(least_kinds(p, q), ["words"])

    def test_makers_with_great_numbers(self):
        with Soon():
            shown = parting(latest(["t", "u"], 6), earliest(["t", "u"], 6), "one")
            self.assertIs(shown, None)
            shown = parting(lanes(["t"], 6), lanes(["t"], 5), "words")
            self.check_parting(lanes(["t"], 6), lanes(["t"], 5), "words", shown)
            self.assertEqual(len(shown.given), 6)
            shown = parting(blocks(["t"], 6), blocks(["t"], 5), "pairs")
            self.assertEqual(len(shown.given), 6 + 1)


class TestAnswers(unittest.TestCase):
    def test_least_kinds_of_makers(self):
        plain = fold(["t"])
        self.assertEqual(least_kinds(plain, back_fold(["t"])), ["pairs"])
        self.assertEqual(least_kinds(plain, lanes(["t"], 2)), ["bags", "lefts"])
        self.assertEqual(least_kinds(plain, blocks(["t"], 3)), ["words"])
        self.assertEqual(least_kinds(plain, plain), ["trees"])
        self.assertEqual(least_kinds(plain, earliest(["t"], 2)), ["lefts"])
        self.assertEqual(least_kinds(plain, latest(["t"], 1)), ["rights"])
        self.assertEqual(least_kinds(plain, Loop(SILENT)), [])

    def test_least_kinds_of_loops_that_are_not_single(self):
        text = FOLD.replace("a = a + x", "a = a + ( x + x )")
        self.assertEqual(least_kinds(Loop(text), Loop(text)), ["words"])
        self.assertEqual(least_kinds(Loop(FOLD), Loop(text)), ["middles"])
        self.assertEqual(least_kinds(Loop(SILENT), Loop(DOUBLED)), ["words"])
        twice = FOLD.replace("a = a + x", "a = x + a + x")
        self.assertEqual(least_kinds(Loop(text), Loop(twice)), ["bags", "tails"])

    def test_told_lists_are_new(self):
        plain = fold(["t"])
        told = least_kinds(plain, plain)
        told.append("one")
        self.assertEqual(least_kinds(plain, plain), ["trees"])
        shown = parting(plain, back_fold(["t"]), "words")
        before = list(shown.given), str(shown.table)
        shown.given.clear()
        shown.table[0, 0] = 1
        again = parting(plain, back_fold(["t"]), "words")
        self.assertEqual((again.given, str(again.table)), before)

    def test_parting_keeps_what_it_is_made_of(self):
        given, table = [("t", 0)], Table(1)
        shown = Parting(given, table, (None, 0))
        given.clear()
        self.assertEqual((shown.given, shown.results), ([("t", 0)], (None, 0)))

    def test_result_rows(self):
        for number, _, p, _ in drawn_pairs(range(200)):
            rows = rows_over(p.tags)
            told = result_rows(p)
            self.assertEqual(told.tags, p.tags)
            self.assertEqual([row for row in rows if row in told], [row for row in rows if p.tree(row) is not None])
        self.assertEqual(result_rows(Loop(SILENT)).earliest(), None)
        self.assertEqual((~result_rows(fold(["t"]))).how_many(0), 1)
        self.assertEqual((~result_rows(fold(["t"]))).how_many(1000), 0)


class TestErrors(unittest.TestCase):
    def test_other_tags_come_first(self):
        p = fold(["t", "u"])
        for other in (fold(["u", "t"]), fold(["t"]), Loop(DOUBLED)):
            for call in (agree, parting, parting_rows):
                self.assertRaises(OtherTags, call, p, other, "none")
            self.assertRaises(OtherTags, least_kinds, p, other)

    def test_no_kind_comes_before_doubled(self):
        twice = Loop(DOUBLED)
        for call in (agree, parting, parting_rows):
            for name in ("", "grouping", "tree", "trees "):
                with self.assertRaises(NoKind) as caught:
                    call(twice, twice, name)
                self.assertEqual(caught.exception.name, name)

    def test_doubled_for_either_loop_and_two_kinds(self):
        plain, twice = fold(["t"]), Loop(DOUBLED)
        for call in (agree, parting, parting_rows):
            for kind in all_kinds():
                for pair in ((plain, twice), (twice, plain), (twice, twice)):
                    if kind in ("trees", "pairs"):
                        self.assertRaises(Doubled, call, *pair, kind)
                    else:
                        call(*pair, kind)

    def test_a_state_that_no_list_reaches_makes_no_loop_doubled(self):
        text = FOLD + "\nstate q\non t go q\na = x + x\nend none"
        self.assertTrue(agree(Loop(text), Loop(FOLD), "trees"))
        self.assertIs(parting(Loop(FOLD), Loop(text), "pairs"), None)


if __name__ == "__main__":
    unittest.main()
