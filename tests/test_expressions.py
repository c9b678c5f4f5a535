"""Right sides and `end` lines: brackets, doubled sums, how often x occurs."""

import unittest

from foldplans.errors import BadLoop
from foldplans.loops import Loop
from tests import reference

HEAD = "tags t\nsums a b c\nstate s\non t go r\na = x\nb = x\nend none\nstate r\non t go r\n"


def with_lines(*lines):
    """A loop in which a and b hold something in state r, with these assignments and `end` line there."""
    return HEAD + "\n".join(lines)


def deep(word, many):
    """The word in so many brackets."""
    return " ".join(["("] * many + [word] + [")"] * many)


class Reading(unittest.TestCase):
    def refused(self, text, line):
        with self.assertRaises(BadLoop) as caught:
            Loop(text)
        self.assertEqual(caught.exception.line, line, text)

    def same_trees(self, text, length=5):
        loop = Loop(text)
        for row in reference.rows_up_to(loop.tags, length):
            self.assertEqual(loop.tree(row), reference.tree(text, row), text)


class TestBrackets(Reading):
    def test_words_in_brackets_at_all_places(self):
        for right in ("x", "( x )", "( ( x ) )", "a + x", "( a ) + x", "( a + x )", "x + ( a )", "x + ( a + x )",
                      "( x + a ) + ( x )", "a + b + x", "a + ( b + x )", "( a + b ) + x", "x + ( a + ( b + x ) )",
                      "( x + a ) + ( b + x )", "( ( a ) + ( ( b ) ) )", "x + ( x + a ) + b", "x + x + ( a + b )"):
            text = with_lines(f"c = {right}", "end none", "state q", "on t go q", "c = c", "end c")
            text = text.replace("state r\non t go r", "state r\non t go q")
            self.same_trees(text)
            self.same_trees(text.replace("end c", "end ( c )"))

    def test_ends_with_brackets(self):
        for end in ("a", "( a )", "b + a", "a + ( b )", "( a + b )", "( ( a ) + b )", "( ( a ) + ( ( b ) ) )"):
            self.same_trees(with_lines("a = a + x", f"end {end}"))

    def test_three_and_four_parts_go_from_the_left(self):
        text = "tags t\nsums a b c d\nstate s\non t go q\na = x\nend none\nstate q\non t go r\nb = x\nend none\n" \
               "state r\non t go p\nc = x\nend none\nstate p\non t go o\nd = x\nend none\nstate o\non t go o\nend {}"
        row = ["t"] * 4
        for end, told in (
            ("a + b + c + d", (((0, 1), 2), 3)),
            ("a + ( b + c ) + d", ((0, (1, 2)), 3)),
            ("a + ( b + c + d )", (0, ((1, 2), 3))),
            ("a + b + ( c + d )", ((0, 1), (2, 3))),
            ("a + ( b + ( c + d ) )", (0, (1, (2, 3)))),
            ("( d + ( c ) ) + ( b + a )", ((3, 2), (1, 0))),
            ("d + ( c + b ) + a", ((3, (2, 1)), 0)),
        ):
            self.assertEqual(Loop(text.format(end)).tree(row), told)

    def test_20_and_21_open_at_once(self):
        for word in ("x", "b", "a + x", "( b ) + x"):
            many = 20 - word.count("(")
            self.same_trees(with_lines(f"a = {deep(word, many)}", "b = x", "end a + b"))
            self.refused(with_lines(f"a = {deep(word, many + 1)}", "b = x", "end a + b"), 10)
        self.same_trees(with_lines(f"end {deep('a', 20)} + {deep('b', 20)}"))
        self.refused(with_lines(f"end {deep('a', 21)}"), 10)
        self.refused(with_lines(f"end {deep('a', 20)} + {deep('b', 21)}"), 10)

    def test_brackets_that_nest_on_either_side(self):
        left, right = "x", "x"
        for _ in range(20):
            left, right = f"( {left} )", f"( {right} )"
        self.same_trees(with_lines(f"a = {left} + a + {right}", "end a"))
        nested = "x + a"
        for _ in range(19):
            nested = f"( {nested} )"
        self.same_trees(with_lines(f"a = b + ( {nested} )", "b = x", "end a + b"))
        self.refused(with_lines(f"a = b + ( ( {nested} ) )", "b = x", "end a + b"), 10)

    def test_wrong_forms(self):
        for wrong in ("( )", "( a", "a )", ") a (", "a ( b )", "( a ) b", "( a ) ( b )", "+ a", "a +", "a + + b",
                      "( + a )", "( a + )", "( a b )", "a + ( )", "(a)", "a+b", "( a ) )", "( ( a )", "( none )",
                      "+", "(", "a + none", "none + a"):
            self.refused(with_lines(f"end {wrong}"), 10)
            self.refused(with_lines(f"c = {wrong}", "end none"), 10)


class TestHowOften(Reading):
    def test_each_sum_once_within_a_right_side(self):
        for wrong in ("a + a", "a + ( a )", "( a + x ) + ( b + a )", "x + a + x + a"):
            self.refused(with_lines(f"a = {wrong}", "end none"), 10)

    def test_each_sum_once_across_assignments(self):
        self.refused(with_lines("a = b", "b = b", "end none"), 11)
        self.refused(with_lines("c = a + b", "a = x", "b = x + ( b )", "end none"), 12)
        self.refused(with_lines("c = x + b", "a = none", "b = ( a + ( b ) )", "end none"), 12)
        self.same_trees(with_lines("a = b", "b = a", "end a + b"))

    def test_x_twice_but_not_three_times(self):
        self.same_trees(with_lines("a = x + x", "b = a", "end a + b"))
        self.same_trees(with_lines("a = x", "b = a + x", "end a + b"))
        self.refused(with_lines("a = x + x + x", "end none"), 10)
        self.refused(with_lines("a = x", "b = x", "c = x", "end none"), 12)
        self.refused(with_lines("a = x + ( x )", "b = a", "c = b + x", "end none"), 12)
        self.refused(with_lines("a = x", "b = x + x", "end none"), 11)

    def test_what_counts_begins_anew_behind_each_on_line(self):
        text = "tags t u\nsums a b\nstate s\non t go s\na = x + x\nb = none\non u go s\na = x\nb = x\nend none"
        self.same_trees(text + "\nstate r\non t go r\na = x + x\non u go r\na = x + x\nend none")

    def test_left_sides_are_different(self):
        self.refused(with_lines("a = x", "a = b", "end none"), 11)
        self.refused(with_lines("a = none", "b = x", "a = none", "end none"), 12)

    def test_each_sum_once_and_no_x_at_the_end(self):
        for wrong in ("a + a", "a + ( b + a )", "x", "a + x", "( x ) + a", "( a + b ) + ( b )"):
            self.refused(with_lines(f"end {wrong}"), 10)

    def test_only_sums_are_parts(self):
        for wrong in ("t", "s", "r", "d", "on", "end", "state", "tags", "A", "ab", "1", "x1"):
            self.refused(with_lines(f"end {wrong}"), 10)
            self.refused(with_lines(f"a = x + {wrong}", "end none"), 10)


if __name__ == "__main__":
    unittest.main()
