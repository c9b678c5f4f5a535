"""EmptySum, against a search over all rows up to a length."""

import unittest

from foldplans.errors import EmptySum
from foldplans.loops import Loop
from tests import reference
from tests.loop_texts import FOLD, SWAP, Draw


class TestEmptySum(unittest.TestCase):
    def row_of(self, text):
        """The row that reading tells, or None."""
        try:
            Loop(text)
        except EmptySum as error:
            return error.row
        return None

    def test_texts_that_are_drawn(self):
        found = {}
        for number in range(1500):
            draw = Draw(number)
            make = draw.careless if number % 4 == 0 else draw.spoiled
            tags, sums = ["t", "u"][:1 + number % 2], ["a", "b", "c"][:1 + number // 2 % 3]
            states = ["p", "q", "r", "s"][:2 + number // 6 % 2 + (1 - number % 2)]
            text = make(tags, sums, states)
            row = self.row_of(text)
            # In as many steps as twice the states, a sum has been full and empty in each of them.
            self.assertEqual(row, reference.first_empty(text, 2 * len(states)), text)
            length = None if row is None else len(row)
            found[length] = found.get(length, 0) + 1
        self.assertTrue(min(found.get(length, 0) for length in (None, 0, 1, 2, 3)) > 10)

    def test_the_start(self):
        self.assertEqual(self.row_of("tags t\nsums a\nstate s\non t go s\na = x\nend a"), [])
        self.assertEqual(self.row_of("tags t\nsums a\nstate s\non t go s\na = a + x\nend none"), ["t"])
        self.assertEqual(self.row_of("tags t u\nsums a\nstate s\non t go s\na = x\non u go s\na = x\nend ( a )"), [])

    def test_the_first_in_the_order_of_the_tags(self):
        text = "tags {}\nsums a\nstate s\non {} go s\na = a\non {} go s\na = x + a\nend none"
        self.assertEqual(self.row_of(text.format("t u", "t", "u")), ["t"])
        self.assertEqual(self.row_of(text.format("u t", "u", "t")), ["u"])

    def test_a_shorter_row_for_a_later_sum(self):
        text = SWAP.replace("b = a + x\non u go s", "b = a + x\non u go p").replace("a = none\nb = none", "a = none")
        self.assertEqual(self.row_of(text), ["t", "u"])
        text = "tags t u\nsums a b\nstate s\non t go r\nb = x\non u go s\nend none\n" \
               "state r\non t go r\nb = b + x\non u go r\na = a\nend b"
        self.assertEqual(self.row_of(text), ["t", "u"])
        self.assertEqual(self.row_of(text.replace("end b", "end b + a")), ["t"])

    def test_equally_short_rows_for_several_sums(self):
        text = "tags t u\nsums a b\nstate s\non t go s\nb = b\non u go s\na = a\nend none"
        self.assertEqual(self.row_of(text), ["t"])
        self.assertEqual(self.row_of(text.replace("sums a b", "sums b a")), ["t"])
        text = "tags u t\nsums a b\nstate s\non u go s\na = a\non t go s\nb = b\nend none"
        self.assertEqual(self.row_of(text), ["u"])

    def test_the_end_line_ahead_of_a_longer_row(self):
        text = "tags t u\nsums a\nstate s\non t go s\non u go r\nend none\nstate r\non t go r\na = a\non u go r\nend a"
        self.assertEqual(self.row_of(text), ["u"])
        self.assertEqual(self.row_of(text.replace("end a", "end none")), ["u", "t"])

    def test_what_stands_on_a_right_side_is_empty_then(self):
        text = "tags t\nsums a b\nstate s\non t go r\na = x\nend none\nstate r\non t go r\nb = a\nend a"
        self.assertEqual(self.row_of(text), ["t", "t"])
        self.assertEqual(self.row_of(text.replace("end a", "end none")), ["t", "t", "t"])
        self.assertEqual(self.row_of(text.replace("b = a", "b = a\na = x")), None)
        self.assertEqual(self.row_of(text.replace("b = a", "b = a + x\na = none")), ["t", "t"])

    def test_none_and_untouched_sums(self):
        text = "tags t u\nsums a b\nstate s\non t go r\na = x\nb = x\non u go s\nb = none\nend none\n" \
               "state r\non t go r\nb = b + x\non u go r\n{}end {}"
        self.assertEqual(self.row_of(text.format("a = none\n", "b + a")), ["t", "u"])
        self.assertEqual(self.row_of(text.format("", "b + a")), None)
        self.assertEqual(self.row_of(text.format("a = none\n", "b")), None)
        self.assertEqual(self.row_of(text.format("b = none\n", "a")), ["t", "u", "t"])

    def test_states_that_no_list_reaches_do_not_count(self):
        self.assertEqual(self.row_of(FOLD + "\nstate q\non t go r\na = a\nend a"), None)
        self.assertEqual(self.row_of(FOLD + "\nstate q\non t go q\nend a"), None)

    def test_the_row_is_a_new_list(self):
        text = FOLD.replace("end none", "end a")
        self.assertEqual(self.row_of(text), [])
        self.row_of(text).append("t")
        self.assertEqual(self.row_of(text), [])

    def test_no_loop_with_an_end_at_the_start(self):
        for number in range(40):
            text = Draw(number).careful(["t"], ["a", "b"], ["p", "q"])
            self.assertEqual(self.row_of(text), None)
            self.assertEqual(Loop(text).tree([]), None)


if __name__ == "__main__":
    unittest.main()
