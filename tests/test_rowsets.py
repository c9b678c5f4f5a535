"""Row sets against plain sets of rows up to a length: members, operators, comparisons, errors."""

import operator
import unittest

from foldplans.errors import BadCount, NoTag, OtherTags
from foldplans.rowsets import RowSet
from tests.bounded import all_rows, many_sets
from tests.samples import Soon

class Members(unittest.TestCase):
    def same(self, made, tags, rows, length=5):
        self.assertIsInstance(made, RowSet)
        self.assertEqual(made.tags, tuple(tags))
        told = {tuple(row) for row in rows}
        for row in all_rows(tags, length):
            self.assertIs(list(row) in made, row in told, row)


class TestClassMethods(Members):
    def test_none_and_every(self):
        for tags in (["t"], ["t", "u"], ["u", "t", "v"]):
            self.same(RowSet.none(tags), tags, [])
            self.same(RowSet.every(tags), tags, all_rows(tags, 5))

    def test_with_tag(self):
        for tags in (["t"], ["t", "u"], ["u", "t", "v"]):
            for tag in tags:
                self.same(RowSet.with_tag(tags, tag), tags, [row for row in all_rows(tags, 5) if tag in row])

    def test_of_length(self):
        for tags in (["t"], ["t", "u"], ["u", "t", "v"]):
            for many in range(7):
                self.same(RowSet.of_length(tags, many), tags, [row for row in all_rows(tags, 5) if len(row) == many])
            for many in (0, 1, 29, 30):
                made = RowSet.of_length(tags, many)
                self.assertEqual([k for k in range(40) if ["t"] * k in made], [many])
                self.assertEqual(made.how_many(many), len(tags) ** many)

    def test_of_rows(self):
        for tags, rows in (
            (["t"], []),
            (["t"], [[]]),
            (["t"], [["t"] * 5, ["t"] * 2, ["t"] * 5]),
            (["t", "u"], [["t", "u"], ["t"], [], ["u", "t", "t"], ["t", "u"]]),
            (["t", "u"], (("t", "u"), ("u",))),
            (["t", "u"], [("u", "u"), ["u", "u"]]),
            (["v", "t", "u"], [["u", "v", "u", "t", "v"], ["v"], ["u", "v", "u"]]),
        ):
            self.same(RowSet.of_rows(tags, rows), tags, rows)
            self.same(RowSet.of_rows(tuple(tags), tuple(rows)), tags, rows)

    def test_long_rows(self):
        rows = [["t", "u", "u"] * 100, ["u"] * 300, ["t"] * 299 + ["u"]]
        with Soon():
            made = RowSet.of_rows(["t", "u"], rows)
            self.assertEqual([row in made for row in rows], [True] * 3)
            self.assertFalse(["t"] * 300 in made)
            self.assertEqual([made.how_many(300), made.how_many(299), made.is_finite()], [3, 0, True])

    def test_lists_that_are_changed_later(self):
        tags, rows = ["t", "u"], [["t"], ["u", "u"]]
        made = [RowSet.of_rows(tags, rows), RowSet.every(tags), RowSet.with_tag(tags, "u")]
        rows[0].append("u")
        rows.append(["t", "t"])
        tags.append("v")
        self.assertEqual([one.tags for one in made], [("t", "u")] * 3)
        self.assertEqual([["t"] in made[0], ["t", "u"] in made[0], ["t", "t"] in made[0]], [True, False, False])


class TestErrors(Members):
    def told(self, error, call):
        with self.assertRaises(error) as caught:
            call()
        return caught.exception

    def test_with_tag(self):
        for tag in ("u", "", "T", "tt", "none"):
            self.assertEqual(self.told(NoTag, lambda: RowSet.with_tag(["t", "v"], tag)).name, tag)

    def test_of_length(self):
        for many in (-1, 31, 1000, 10 ** 100, -(10 ** 100)):
            self.assertEqual(self.told(BadCount, lambda: RowSet.of_length(["t"], many)).count, many)

    def test_of_rows(self):
        for rows, tag in (
            ([["t"], ["u", "w", "v"]], "w"),
            ([["x"]], "x"),
            ([[], ["t", ""]], ""),
            ([("v", "t"), ("w",)], "v"),
        ):
            self.assertEqual(self.told(NoTag, lambda: RowSet.of_rows(["t", "u"], rows)).name, tag)

    def test_rows_that_are_asked(self):
        for made in (RowSet.none(["t", "u"]), RowSet.every(["t", "u"]), RowSet.of_length(["t", "u"], 2)):
            for row, tag in ((["v"], "v"), (["t", "u", "w", "v"], "w"), (["t"] * 50 + [""], ""), (("T", "t"), "T")):
                for call in (lambda: row in made, lambda: made.behind(row), lambda: made.rank(row)):
                    self.assertEqual(self.told(NoTag, call).name, tag)

    def test_how_many(self):
        for made in (RowSet.none(["t"]), RowSet.every(["t", "u"])):
            for many in (-1, 1001, 10 ** 100):
                self.assertEqual(self.told(BadCount, lambda: made.how_many(many)).count, many)

    def test_other_tags(self):
        made = RowSet.every(["t", "u"])
        signs = [operator.or_, operator.and_, operator.sub, operator.xor, operator.add,
                 operator.le, operator.lt, operator.ge, operator.gt]
        for tags in (["t"], ["u", "t"], ["t", "u", "v"], ["t", "v"]):
            for other in (RowSet.every(tags), RowSet.none(tags)):
                for sign in signs:
                    self.told(OtherTags, lambda: sign(made, other))
                    self.told(OtherTags, lambda: sign(other, made))
                self.assertFalse(made == other)
                self.assertTrue(made != other)

    def test_equal_to_nothing_else(self):
        for other in (None, 0, [], ["t"], "t", ()):
            self.assertFalse(RowSet.none(["t"]) == other)
            self.assertTrue(RowSet.none(["t"]) != other)


class TestSteps(Members):
    def test_members_of_sets_made_in_several_steps(self):
        sizes = {}
        for one in many_sets(600, 6):
            for row in one.universe():
                self.assertIs(list(row) in one.made, row in one.rows)
            sizes[one.made.least_states()] = True
        self.assertGreater(len(sizes), 10)

    def test_rows_may_be_tuples(self):
        made = RowSet.of_rows(["t", "u"], [["t", "u"]])
        self.assertTrue(("t", "u") in made)
        self.assertEqual([made.rank(("t", "u")), ("u",) in made.behind(("t",))], [0, True])

    def test_truth(self):
        for one in many_sets(300):
            if one.made.least_states() < one.length:
                self.assertIs(bool(one.made), bool(one.rows))
        self.assertIs(bool(RowSet.of_rows(["t"], [[]])), True)
        self.assertIs(bool(RowSet.of_length(["t"], 30) & RowSet.of_length(["t"], 29)), False)

    def test_operands_stay(self):
        one, two = RowSet.with_tag(["t", "u"], "u"), RowSet.of_length(["t", "u"], 2)
        before = [one.least_states(), two.least_states(), one.how_many(4), two.how_many(2)]
        for sign in (operator.or_, operator.and_, operator.sub, operator.xor, operator.add, operator.le, operator.lt):
            sign(one, two)
        for made in (~one, one.turned(), two.turned(), one.behind(["u"]), two.behind(["t"])):
            self.assertIsNot(made, one)
        self.assertEqual([one.least_states(), two.least_states(), one.how_many(4), two.how_many(2)], before)

    def test_behind_in_several_steps(self):
        for one in many_sets(100):
            if one.length > 3:
                first = one.made.tags[0]
                self.assertTrue(one.made.behind([first, first]) == one.made.behind([first]).behind([first]))
                self.assertTrue(one.made.behind([]) == one.made)


class TestComparisons(unittest.TestCase):
    def pairs(self):
        """Pairs of sets that differ within the length of their rows, if they differ."""
        small = [one for one in many_sets(240) if one.made.least_states() <= 4]
        for one in small[::2]:
            for two in small[::3]:
                if one.made.tags == two.made.tags and one.length > 3 and two.length > 3:
                    length = min(one.length, two.length)
                    yield one, two, {r for r in one.rows if len(r) <= length}, {r for r in two.rows if len(r) <= length}

    def test_against_plain_sets(self):
        seen = {}
        for one, two, left, right in self.pairs():
            a, b = one.made, two.made
            # Sets of at most 4 states that differ do so for a row of at most 6 tags.
            if min(one.length, two.length) >= 6:
                self.assertIs(a == b, left == right)
                self.assertIs(a != b, left != right)
                self.assertEqual([a <= b, a < b], [left <= right, left < right])
                self.assertEqual([a >= b, a > b], [left >= right, left > right])
                seen[left <= right, right <= left] = True
        self.assertEqual(len(seen), 4)

    def test_equal_sets_made_in_other_ways(self):
        tags = ["t", "u"]
        every, one = RowSet.every(tags), RowSet.of_length(tags, 1)
        u = RowSet.of_rows(tags, [["u"]])
        self.assertTrue(every + u + every == RowSet.with_tag(tags, "u"))
        t, rows_of_t = RowSet.of_rows(tags, [["t"]]), ~RowSet.with_tag(tags, "u")
        self.assertTrue(rows_of_t - RowSet.of_rows(tags, [[]]) == t + rows_of_t)
        self.assertTrue(one + one + one == RowSet.of_length(tags, 3))
        self.assertTrue(~RowSet.none(tags) == every)
        self.assertTrue((every ^ u) == ~u)
        for made in many_sets(200):
            made = made.made
            self.assertTrue(~~made == made)
            self.assertTrue(made.turned().turned() == made)
            self.assertTrue((made ^ made) == RowSet.none(made.tags))
            self.assertTrue(made <= made and made >= made and not made < made and not made > made)
            self.assertTrue(made + RowSet.none(made.tags) == RowSet.none(made.tags))
            self.assertTrue(made + RowSet.of_rows(made.tags, [[]]) == made)

    def test_turning_a_sum(self):
        sets = [one.made for one in many_sets(120) if len(one.made.tags) == 2 and one.made.least_states() < 8]
        for one, two in zip(sets, sets[1:]):
            self.assertTrue((one + two).turned() == two.turned() + one.turned())
            self.assertTrue(~(one | two) == ~one & ~two)
            self.assertTrue((one ^ two) == (one - two) | (two - one))


if __name__ == "__main__":
    unittest.main()
