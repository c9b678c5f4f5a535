"""Costs and wastes, against runs of the test's own."""

import unittest

from foldplans.costs import cost, greatest_lead, greatest_waste, waste
from foldplans.errors import BadTag, OtherTags
from foldplans.loops import Loop
from tests import reference
from tests.loop_texts import BACK, DOUBLED, FOLD, KEPT, SILENT, SWAP, Draw
from tests.samples import Soon

# At the end only one of a (one +) and c (two +) is in the result.
FORKED = (
    "tags t u\nsums a b c\nstate s\non t go r\na = x\non u go s\nend none\n"
    "state r\non t go q\nb = x + x\non u go r\nend a\n"
    "state q\non t go p\na = a + x\nc = b + x\non u go q\nend a + b\n"
    "state p\non t go p\non u go o\nend c\nstate o\non t go o\non u go o\nend a"
)


def drawn(many, states):
    """Texts in which no empty sum is used, with how long rows tell all that there is to know."""
    for number in range(many):
        one_tag = number % 2 == 0
        tags, sums = ["t", "u"][:2 - one_tag], ["a", "b"][:1 + number // 2 % 2]
        yield Draw(number).careful(tags, sums, states[:1 + number // 4 % len(states)], number % 3), 26 if one_tag else 8


class TestCostAndWaste(unittest.TestCase):
    def test_against_runs_of_the_test(self):
        seen = {}
        texts = [text for text, _ in drawn(150, "pqr")]
        for text in (*texts, FOLD, BACK, SWAP, KEPT, SILENT, DOUBLED, FORKED):
            loop = Loop(text)
            for row in reference.rows_up_to(loop.tags, 5):
                told = [reference.cost(text, row), reference.waste(text, row)]
                self.assertEqual([cost(loop, row), waste(loop, row)], told, (text, row))
                seen[tuple(told)] = True
        self.assertGreater(len(seen), 15)

    def test_what_is_thrown_away_counts(self):
        loop = Loop(DOUBLED)
        self.assertEqual([cost(loop, []), cost(loop, ["t"]), cost(loop, ["t"] * 5)], [0, 1, 5])
        self.assertEqual([waste(loop, ["t"] * 5), waste(loop, [])], [5, 0])

    def test_the_end_line_counts(self):
        self.assertEqual([cost(Loop(SWAP), ["t"]), waste(Loop(SWAP), ["t"])], [1, 0])
        self.assertEqual([cost(Loop(FORKED), ["t", "t"]), waste(Loop(FORKED), ["t", "t"])], [2, 0])

    def test_without_a_result_the_waste_is_the_cost(self):
        text = FOLD.replace("end a", "end none")
        for many in range(5):
            self.assertEqual(waste(Loop(text), ["t"] * many), cost(Loop(text), ["t"] * many))
            self.assertEqual(cost(Loop(text), ["t"] * many), max(0, many - 1))

    def test_tuples_and_rows_that_stay(self):
        row = ["t", "u", "t"]
        self.assertEqual(cost(Loop(SWAP), tuple(row)), cost(Loop(SWAP), row))
        self.assertEqual(waste(Loop(SWAP), tuple(row)), waste(Loop(SWAP), row))
        self.assertEqual(row, ["t", "u", "t"])

    def test_rows_of_300_tags(self):
        with Soon():
            self.assertEqual([cost(Loop(FOLD), ["t"] * 300), waste(Loop(BACK), ["t"] * 300)], [299, 0])
            row = (["t"] * 30 + ["u"]) * 9
            self.assertEqual([cost(Loop(SWAP), row), waste(Loop(SWAP), row)], [reference.cost(SWAP, row)] * 2)

    def test_the_first_wrong_index(self):
        for call in (cost, waste):
            for row, told in ((["v"], 0), (["t", "u", "a", "v"], 2), (["t"] * 299 + ["s"], 299), (("t", ""), 1)):
                with self.assertRaises(BadTag) as caught:
                    call(Loop(SWAP), row)
                self.assertEqual(caught.exception.index, told)


class TestGreatestWaste(unittest.TestCase):
    def test_against_a_search_of_the_test(self):
        seen = {}
        for text, length in drawn(240, "pq"):
            loop = Loop(text)
            rows = reference.rows_up_to(loop.tags, length)
            half = max(reference.waste(text, row) for row in rows if 2 * len(row) <= length)
            whole = max(reference.waste(text, row) for row in rows)
            found = greatest_waste(loop)
            if found is None:
                self.assertGreater(whole, half, text)
            else:
                self.assertEqual([half, whole], [found, found], text)
            seen[found] = seen.get(found, 0) + 1
        self.assertGreater(min(seen[None], seen[0]), 30)

    def test_by_hand(self):
        for text, told in ((FOLD, 0), (BACK, 0), (SILENT, 0), (DOUBLED, None), (SWAP, None), (KEPT, None), (FORKED, 2)):
            self.assertEqual(greatest_waste(Loop(text)), told)
        self.assertIs(greatest_waste(Loop(FOLD.replace("end a", "end none"))), None)

    def test_it_is_found_for_a_long_row_alone(self):
        lines = ["tags t", "sums a b", "state s", "on t go sa", "a = x", "end none"]
        for name, goal in zip("abcdefghij", "bcdefghijk"):
            lines += [f"state s{name}", f"on t go s{goal}", "b = x + x", "end a"]
        lines += ["state sk", "on t go sl", "a = a + b", "end b", "state sl", "on t go sl", "a = a + x", "end a"]
        loop = Loop("\n".join(lines))
        self.assertEqual([waste(loop, ["t"] * many) for many in range(14)], [0, 0, *range(1, 10), 9, 9, 9])
        self.assertEqual(greatest_waste(loop), 9)
        self.assertEqual(greatest_waste(Loop("\n".join(lines).replace("end b", "end a"))), 10)

    def test_what_is_kept_by_no_end_that_can_be_reached(self):
        text = "tags t u\nsums a b\nstate s\non t go r\na = x\nb = x\non u go s\nend none\n" \
               "state r\non t go r\na = a + x\non u go q\nb = b + x\nend {}\nstate q\non t go q\non u go q\nend {}"
        self.assertEqual(greatest_waste(Loop(text.format("a + b", "a + b"))), 0)
        self.assertEqual(greatest_waste(Loop(text.format("a", "a"))), 1)
        self.assertIs(greatest_waste(Loop(text.format("a", "b"))), None)
        self.assertIs(greatest_waste(Loop(text.format("none", "a"))), None)

    def test_states_that_no_list_reaches_do_not_count(self):
        self.assertEqual(greatest_waste(Loop(FOLD + "\nstate q\non t go q\na = x + x\nend none")), 0)
        self.assertEqual(greatest_waste(Loop(FOLD + "\nstate q\non t go s\na = x + x\nend none")), 0)


class TestGreatestLead(unittest.TestCase):
    def test_against_a_search_of_the_test(self):
        seen = {}
        families = {}
        for text, length in drawn(72, "pq"):
            loop = Loop(text)
            rows = reference.rows_up_to(loop.tags, length)
            costs = [reference.cost(text, row) for row in rows]
            families.setdefault(loop.tags, []).append((loop, rows, costs))
        for family in families.values():
            for p, rows, left in family:
                for q, _, right in family:
                    leads = [(one - two, len(row)) for one, two, row in zip(left, right, rows)]
                    half = max(lead for lead, length in leads if 2 * length <= len(rows[-1]))
                    whole = max(lead for lead, _ in leads)
                    found = greatest_lead(p, q)
                    if found is None:
                        self.assertGreater(whole, half, (p.text, q.text))
                    else:
                        self.assertEqual([half, whole], [found, found], (p.text, q.text))
                    seen[found] = seen.get(found, 0) + 1
        self.assertGreater(min(seen[None], seen[0], seen[1]), 20)

    def test_by_hand(self):
        fold, doubled, silent = Loop(FOLD), Loop(DOUBLED), Loop(SILENT)
        self.assertEqual([greatest_lead(fold, doubled), greatest_lead(doubled, fold)], [0, 1])
        self.assertEqual([greatest_lead(fold, silent), greatest_lead(silent, fold)], [None, 0])
        self.assertEqual([greatest_lead(fold, fold), greatest_lead(fold, Loop(BACK))], [0, 0])

    def test_a_lead_that_is_below_0_for_every_row_with_items(self):
        text = "tags t\nsums a b\nstate s\non t go r\na = x + x\nb = none\nend none\n" \
               "state r\non t go r\na = {}\nend a"
        one, two = Loop(text.format("a + x")), Loop(text.format("x + ( a + x )"))
        self.assertEqual(greatest_lead(one, two), 0)
        self.assertIs(greatest_lead(two, one), None)
        self.assertEqual([cost(one, ["t"] * k) - cost(Loop(DOUBLED), ["t"] * k) for k in range(4)], [0, 0, 0, 0])
        self.assertEqual([cost(Loop(FOLD), ["t"] * k) - cost(one, ["t"] * k) for k in range(4)], [0, -1, -1, -1])
        self.assertEqual([greatest_lead(Loop(FOLD), one), greatest_lead(one, Loop(FOLD))], [0, 1])

    def test_a_lead_that_grows_and_shrinks(self):
        text = "tags t\nsums a\nstate s\non t go r\na = x\nend none\nstate r\non t go {}\na = {}\nend a\n" \
               "state q\non t go r\na = {}\nend a"
        once, twice = "a + x", "a + x + x"
        one, two = Loop(text.format("q", once, twice)), Loop(text.format("q", twice, once))
        self.assertEqual([greatest_lead(one, two), greatest_lead(two, one)], [0, 1])
        three = Loop(text.format("r", twice, once))
        self.assertEqual([greatest_lead(one, three), greatest_lead(three, one)], [0, None])

    def test_rings_of_many_states(self):
        def ring(many):
            names = [f"s{'abcdefghij'[k // 10]}{'abcdefghij'[k % 10]}" for k in range(many)]
            lines = ["tags t", "sums a", "state s", f"on t go {names[0]}", "a = x", "end none"]
            for at, name in enumerate(names):
                step = "a = x + x" if at == 0 else "a = x"
                lines += [f"state {name}", f"on t go {names[(at + 1) % many]}", step, "end a"]
            return Loop("\n".join(lines))

        with Soon():
            self.assertEqual(greatest_lead(ring(60), ring(60)), 0)
            self.assertIs(greatest_lead(ring(59), ring(60)), None)
            self.assertEqual(greatest_lead(ring(60), ring(59)), 0)

    def test_the_end_line_counts(self):
        text = "tags t\nsums a b\nstate s\non t go r\na = x\nb = x\nend none\nstate r\non t go q\nend a + b\n" \
               "state q\non t go q\nend a"
        self.assertEqual(greatest_lead(Loop(text), Loop(SILENT)), 1)
        self.assertEqual(greatest_lead(Loop(SILENT), Loop(text)), 0)

    def test_other_tags(self):
        for one, two in ((FOLD, SWAP), (SWAP, FOLD), (FOLD, FOLD.replace("tags t", "tags u").replace("on t", "on u"))):
            with self.assertRaises(OtherTags):
                greatest_lead(Loop(one), Loop(two))
        turned = SILENT.replace("tags t", "tags {}").replace("on t go s", "on {} go s\non {} go s")
        with self.assertRaises(OtherTags):
            greatest_lead(Loop(turned.format("t u", "t", "u")), Loop(turned.format("u t", "u", "t")))


if __name__ == "__main__":
    unittest.main()
