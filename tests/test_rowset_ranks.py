"""Counts, ranks, earliest rows and states of row sets; sets that need many states."""

import unittest

from foldplans.rowsets import RowSet
from tests.bounded import all_rows, many_sets
from tests.samples import Soon

TAGS = ["t", "u"]


class TestAgainstPlainSets(unittest.TestCase):
    def test_how_many(self):
        for one in many_sets(400):
            for many in range(one.length + 1):
                self.assertEqual(one.made.how_many(many), sum(len(row) == many for row in one.rows))

    def test_earliest(self):
        for one in many_sets(400):
            ordered = one.ordered()
            if ordered:
                self.assertEqual(one.made.earliest(), list(ordered[0]))
            elif one.made.least_states() <= one.length:
                self.assertIs(one.made.earliest(), None)

    def test_rank(self):
        for one in many_sets(200):
            ahead = 0
            for row in one.universe():
                self.assertEqual(one.made.rank(list(row)), ahead)
                ahead += row in one.rows

    def test_number(self):
        for one in many_sets(400):
            ordered = one.ordered()
            for k, row in enumerate(ordered):
                self.assertEqual(one.made.number(k), list(row))
            later = one.made.number(len(ordered))
            if later is None:
                self.assertTrue(one.made.is_finite())
                self.assertIs(one.made.number(len(ordered) + 5), None)
            else:
                self.assertGreater(len(later), one.length)
                self.assertTrue(later in one.made)

    def test_is_finite(self):
        seen = {True: 0, False: 0}
        for one in many_sets(400, 6):
            states = one.made.least_states()
            if states <= 200:
                # A row as long as there are states comes to some state twice.
                told = not any(one.made.how_many(states + k) for k in range(states))
                self.assertIs(one.made.is_finite(), told)
                seen[told] += 1
        self.assertGreater(min(seen.values()), 50)

    def test_least_states(self):
        checked = 0
        for one in many_sets(600, 6):
            half = one.length // 2
            behind = {
                tuple(row + rest in one.rows for rest in all_rows(one.made.tags, half))
                for row in all_rows(one.made.tags, half)
            }
            self.assertLessEqual(len(behind), one.made.least_states())
            if one.made.least_states() <= half + 1:
                self.assertEqual(len(behind), one.made.least_states())
                checked += 1
        self.assertGreater(checked, 200)


class TestByHand(unittest.TestCase):
    def test_least_states(self):
        for made, told in (
            (RowSet.none(TAGS), 1),
            (RowSet.every(TAGS), 1),
            (RowSet.with_tag(TAGS, "t"), 2),
            (RowSet.of_length(TAGS, 0), 2),
            (RowSet.of_length(TAGS, 30), 32),
            (RowSet.of_rows(TAGS, []), 1),
            (RowSet.of_rows(TAGS, [[]]), 2),
            (RowSet.of_rows(TAGS, [["t"], ["u"]]), 3),
            (RowSet.of_rows(TAGS, [["t", "t"], ["u", "t"]]), 4),
            (RowSet.of_rows(TAGS, [["t", "t"], ["t", "u"], ["u", "t"], ["u", "u"]]), 4),
            (RowSet.every(TAGS) + RowSet.of_rows(TAGS, [["u", "t", "u"]]), 4),
            (RowSet.with_tag(TAGS, "t") & RowSet.with_tag(TAGS, "u"), 4),
            (RowSet.with_tag(["t"], "t"), 2),
        ):
            self.assertEqual(made.least_states(), told)

    def test_the_order_of_the_tags_counts(self):
        self.assertEqual(RowSet.every(["u", "t"]).number(1), ["u"])
        self.assertEqual(RowSet.every(["t", "u"]).number(1), ["t"])
        self.assertEqual(RowSet.of_rows(["u", "t"], [["t", "u"], ["u", "t"]]).earliest(), ["u", "t"])
        self.assertEqual(RowSet.every(["u", "t"]).rank(["t"]), 2)

    def test_earliest_and_number_of_few_rows(self):
        empty = RowSet.none(TAGS)
        self.assertEqual([empty.earliest(), empty.number(0), empty.rank(["t"] * 9)], [None, None, 0])
        only = RowSet.of_rows(TAGS, [[]])
        self.assertEqual([only.earliest(), only.number(0), only.number(1)], [[], [], None])
        self.assertEqual([only.rank([]), only.rank(["t"])], [0, 1])

    def test_the_lists_are_new(self):
        made = RowSet.with_tag(TAGS, "u")
        made.earliest().append("t")
        made.number(3).clear()
        self.assertEqual([made.earliest(), made.number(3)], [["u"], ["u", "u"]])

    def test_exact_numbers_of_any_size(self):
        every = RowSet.every(TAGS)
        row = ["u", "t", "t"] * 100
        digits = int("".join("1" if tag == "u" else "0" for tag in row), 2)
        with Soon():
            self.assertEqual(every.how_many(1000), 2 ** 1000)
            self.assertEqual(every.rank(row), 2 ** 300 - 1 + digits)
            self.assertEqual(every.number(2 ** 300 - 1 + digits), row)
            self.assertEqual(RowSet.with_tag(TAGS, "u").how_many(1000), 2 ** 1000 - 1)
            three = RowSet.every(["t", "u", "v"]) - RowSet.with_tag(["t", "u", "v"], "u")
            self.assertEqual(three.how_many(999), 2 ** 999)

    def test_ranks_of_rows_in_several_sets(self):
        row = ["t", "u", "u", "t"] * 75
        for made in (RowSet.with_tag(TAGS, "u"), RowSet.every(TAGS) + RowSet.of_rows(TAGS, [["u", "t"]])):
            self.assertEqual(made.number(made.rank(row)), row)
            self.assertEqual(made.rank(row) + (~made).rank(row), RowSet.every(TAGS).rank(row))

    def test_far_numbers(self):
        with Soon():
            self.assertEqual(RowSet.every(["t"]).number(5000), ["t"] * 5000)
            seventh = RowSet.of_length(["t"], 7)
            self.assertEqual((seventh + RowSet.with_tag(["t"], "t")).number(92), ["t"] * 100)


class TestManyStates(unittest.TestCase):
    def test_a_tag_far_from_the_end(self):
        first = RowSet.of_rows(TAGS, [["u"]]) + RowSet.every(TAGS)
        for many in (5, 11):
            front = RowSet.of_length(TAGS, many) + first
            self.assertEqual(front.least_states(), many + 3)
            with Soon():
                back = front.turned()
                self.assertEqual(back.least_states(), 2 ** (many + 1))
                put_behind = RowSet.every(TAGS) + RowSet.of_rows(TAGS, [["u"]]) + RowSet.of_length(TAGS, many)
                self.assertTrue(back == put_behind)
                self.assertTrue(back.turned() == front)
                self.assertEqual([back.how_many(many), back.how_many(many + 1)], [0, 2 ** many])
                self.assertEqual(back.earliest(), ["u"] + ["t"] * many)
                self.assertFalse(back.is_finite())
                self.assertEqual((back & ~back).least_states(), 1)
                self.assertTrue(back - front < back)

    def test_how_many_of_a_set_with_many_states(self):
        back = RowSet.every(TAGS) + RowSet.of_rows(TAGS, [["u"]]) + RowSet.of_length(TAGS, 9)
        with Soon():
            self.assertEqual(back.how_many(1000), 2 ** 999)
            self.assertEqual(back.rank(["u"] * 300), 2 ** 299 - 2 ** 9 + 2 ** 299 - 1)

    def test_several_steps_stay_quick(self):
        with Soon():
            made = RowSet.of_length(TAGS, 30)
            for many in range(12):
                made = (made | RowSet.of_length(TAGS, many)) ^ RowSet.with_tag(TAGS, "u")
                made = ~made.turned() - RowSet.of_rows(TAGS, [["u"] * many])
            self.assertGreater(made.least_states(), 12)
            long = RowSet.of_length(TAGS, 30) + RowSet.of_length(TAGS, 30) + RowSet.of_length(TAGS, 30)
            self.assertEqual([long.least_states(), long.how_many(90)], [92, 2 ** 90])
            self.assertTrue(long.turned() == long)
            self.assertEqual((long + RowSet.with_tag(TAGS, "u")).earliest(), ["t"] * 90 + ["u"])

    def test_many_long_rows(self):
        rows = [[TAGS[k // 7 ** (at % 5) % (at % 3 + 2) % 2] for at in range(300)] for k in range(40)]
        with Soon():
            made = RowSet.of_rows(TAGS, rows)
            different = sorted({tuple(row) for row in rows})
            self.assertEqual(made.how_many(300), len(different))
            self.assertEqual([made.number(k) for k in range(len(different))], [list(row) for row in different])
            self.assertEqual([made.rank(list(row)) for row in different], list(range(len(different))))
            self.assertEqual(made.turned().earliest()[::-1] in made, True)


if __name__ == "__main__":
    unittest.main()
