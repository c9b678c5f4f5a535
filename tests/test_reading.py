"""Which texts are loops, and which line of the others is the first wrong one."""

import unittest

from foldplans.errors import BadLoop, EmptySum
from foldplans.loops import Loop
from tests.loop_texts import BACK, DOUBLED, FOLD, KEPT, SILENT, SWAP, Draw
from tests.reference import Spelled

# A right text of two tags, three sums and three states; the comments count the lines.
LINES = [
    "tags t u",  # 1
    "sums a b c",  # 2
    "state s",  # 3
    "on t go r",  # 4
    "a = x",  # 5
    "b = ( x )",  # 6
    "on u go s",  # 7
    "c = none",  # 8
    "end none",  # 9
    "state r",  # 10
    "on t go q",  # 11
    "a = b + ( x + a )",  # 12
    "c = x",  # 13
    "on u go r",  # 14
    "end a + b",  # 15
    "state q",  # 16
    "on t go s",  # 17
    "a = none",  # 18
    "on u go q",  # 19
    "end none",  # 20
]


class Refusing(unittest.TestCase):
    def refused(self, text, line):
        with self.assertRaises(BadLoop) as caught:
            Loop(text)
        self.assertEqual(caught.exception.line, line, text)

    def with_line(self, number, line):
        return "\n".join(LINES[:number - 1] + [line] + LINES[number:])


class TestRightTexts(unittest.TestCase):
    def test_what_a_loop_tells_of_its_text(self):
        for text, tags, sums, states in (
            (FOLD, ("t",), ("a",), ("s", "r")),
            (BACK, ("t",), ("a",), ("s", "r")),
            (SWAP, ("t", "u"), ("a", "b"), ("s", "p")),
            (KEPT, ("t", "u"), ("a", "b"), ("s", "r")),
            (SILENT, ("t",), (), ("s",)),
            (DOUBLED, ("t",), ("a",), ("s",)),
            ("\n".join(LINES), ("t", "u"), ("a", "b", "c"), ("s", "r", "q")),
        ):
            loop = Loop(text)
            self.assertEqual([loop.text, str(loop)], [text, text])
            self.assertEqual([loop.tags, loop.sums, loop.states], [tags, sums, states])
            for names in (loop.tags, loop.sums, loop.states):
                self.assertIs(type(names), tuple)

    def test_texts_that_are_drawn(self):
        for number in range(200):
            tags, sums = ["t", "u", "v"][:1 + number % 3], ["a", "b", "c", "d"][:1 + number % 4]
            text = Draw(number).careful(tags, sums, ["p", "q", "r", "o", "n"][:1 + number % 5])
            loop = Loop(text)
            spelled = Spelled(text)
            self.assertEqual([loop.text, str(loop)], [text, text])
            self.assertEqual([loop.tags, loop.sums], [tuple(tags), tuple(sums)])
            self.assertEqual(loop.states, tuple(spelled.states))
            self.assertTrue(loop == Loop(text))
            self.assertTrue(loop != Loop(text.replace("state p", "state w").replace("go p", "go w")))

    def test_three_tags_four_sums_five_states(self):
        states = "".join(
            f"\nstate s{name}\non t go s{name}\non u go {goal}\na = x\nb = x\non vv go sa\nd = none\nend none"
            for name, goal in zip("abcde", ("sb", "sc", "sd", "se", "sa"))
        )
        loop = Loop("tags t u vv\nsums a b c d" + states)
        self.assertEqual([loop.tags, loop.sums], [("t", "u", "vv"), ("a", "b", "c", "d")])
        self.assertEqual(loop.states, ("sa", "sb", "sc", "sd", "se"))

    def test_names_of_12_letters_and_names_that_look_like_words(self):
        for name in ("abcdefghijkl", "zzzzzzzzzzzz", "tag", "sum", "states", "one", "xx", "ons", "nones"):
            for old in ("t", "a", "r"):
                lines = [" ".join([name if word == old else word for word in line.split()]) for line in LINES]
                Loop("\n".join(lines))

    def test_equality_goes_by_the_text(self):
        self.assertTrue(Loop(FOLD) == Loop(FOLD))
        self.assertFalse(Loop(FOLD) != Loop(FOLD))
        self.assertTrue(Loop(FOLD) != Loop(BACK))
        renamed = FOLD.replace("a", "b").replace("tbgs", "tags").replace("stbte", "state")
        self.assertFalse(Loop(FOLD) == Loop(renamed))
        bracketed = FOLD.replace("a = x", "a = ( x )")
        self.assertFalse(Loop(FOLD) == Loop(bracketed))

    def test_a_loop_equals_nothing_but_a_loop(self):
        for other in (FOLD, None, 0, [FOLD], ("t",)):
            self.assertFalse(Loop(FOLD) == other)
            self.assertTrue(Loop(FOLD) != other)


class TestWrongLines(Refusing):
    def test_each_line_replaced(self):
        wrong = {
            1: ["tags", "tags t t", "tags x", "tags t sums", "tags t abcdefghijklm", "tags T", "tags t1", "tag t u"],
            2: ["sums a b a", "sums t", "sums x", "sums a none", "sums a b cc_", "sum a", "state s", "sums a  b c"],
            3: ["state", "state s s", "state s w", "state t", "state a", "state on", "state S", "stat s", "on t go s"],
            4: ["on t go", "on t go R", "on t go x", "on t go none", "on t to r", "on u go r", "on a go r",
                "on t go r r", "on t", "a = x", "end none", "state r", "on t go abcdefghijklm"],
            5: ["a =", "a = a + a", "a = x +", "a = + x", "a = x x", "a = ( x", "a = x )", "a = ( )", "a = none + x",
                "a x", "= x", "a = d", "a = t", "a = s", "d = x", "t = x", "s = x", "x = x", "a = y", "a == x",
                "a = x + none", "a = ( none )", "a = x + x + x", "a = = x", "on t go r", "end none", "state r"],
            6: ["a = x", "a = none", "b = x + x", "b = x + ( x )", "b = b + ( b )", "b = x ( + b )", "on t go r"],
            7: ["on u", "on t go s", "on v go s", "end none", "state q"],
            8: ["c = none none", "c = none + a", "c none", "none = c", "on u go s", "on t go s"],
            9: ["end", "end none none", "end x", "end a + x", "end a + a", "end a +", "end ( a", "end a )",
                "end ( )", "end none + a", "end t", "end s", "end a b", "ends none", "state r", "on t go s"],
            10: ["state s", "state w v", "state t", "state c", "end none", "on t go s", "tags t", "sums a", "a = x"],
            12: ["a = b + ( x + b )", "a = a + ( x + ( a ) )", "a = b + ( x + a", "a = b + ( x + a ) )"],
            13: ["a = x", "c = a", "c = b", "c = x + x", "c = c + b", "c = x + c + x"],
            15: ["end a + ( a )", "end a + b + x", "end b + a + b"],
            16: ["state r", "state s", "state b"],
            20: ["end", "end q", "on t go s"],
        }
        for number, lines in wrong.items():
            for line in lines:
                self.refused(self.with_line(number, line), number)

    def test_spaces_and_empty_lines(self):
        for number, line in enumerate(LINES, start=1):
            for other in ("", " ", line + " ", " " + line, line.replace(" ", "  ", 1), line + "  "):
                self.refused(self.with_line(number, other), number)

    def test_empty_lines_between_and_at_the_end(self):
        for number in range(1, len(LINES) + 2):
            for empty in ("", " "):
                self.refused("\n".join(LINES[:number - 1] + [empty] + LINES[number - 1:]), number)

    def test_the_first_wrong_line_is_told(self):
        for number in range(1, len(LINES)):
            for later in range(number + 1, len(LINES) + 1):
                lines = list(LINES)
                lines[number - 1] = lines[later - 1] = "a = a = a"
                self.refused("\n".join(lines), number)

    def test_missing_lines(self):
        self.refused("", 1)
        for many in range(1, len(LINES)):
            if many not in (9, 15):
                self.refused("\n".join(LINES[:many]), many + 1)

    def test_texts_that_end_behind_a_right_state_lack_only_other_states(self):
        self.refused("\n".join(LINES[:9]), 4)
        self.refused("\n".join(LINES[:15]), 11)

    def test_a_missing_line_within(self):
        for number, told in ((1, 1), (2, 2), (3, 3), (4, 4), (7, 8), (9, 9), (10, 10), (14, 14), (15, 15), (17, 17)):
            self.refused("\n".join(LINES[:number - 1] + LINES[number:]), told)


class TestNames(Refusing):
    def test_a_name_that_has_been_used_ahead(self):
        for number, line in ((1, "tags t t"), (2, "sums a b t"), (2, "sums a a"), (3, "state t"), (3, "state a"),
                             (10, "state s"), (10, "state t"), (10, "state b"), (16, "state r"), (16, "state u")):
            self.refused(self.with_line(number, line), number)

    def test_words_of_the_form_are_no_names(self):
        for word in ("tags", "sums", "state", "on", "go", "end", "none", "x"):
            self.refused(self.with_line(1, f"tags {word}"), 1)
            self.refused(self.with_line(2, f"sums a {word}"), 2)
            self.refused(self.with_line(3, f"state {word}"), 3)
            self.refused(self.with_line(4, f"on t go {word}"), 4)
            self.refused(self.with_line(5, f"{word} = x"), 5)

    def test_other_texts_are_no_names(self):
        for word in ("A", "aB", "a1", "1", "a-b", "a_b", "+", "(", "=", "abcdefghijklm", "a.", "~"):
            self.refused(self.with_line(1, f"tags t {word}"), 1)
            self.refused(self.with_line(2, f"sums a b c {word}"), 2)
            self.refused(self.with_line(3, f"state {word}"), 3)
            self.refused(self.with_line(4, f"on t go {word}"), 4)


class TestGo(Refusing):
    def test_a_name_that_no_state_has(self):
        for number, tag in ((4, "t"), (7, "u"), (11, "t"), (14, "u"), (17, "t"), (19, "u")):
            for name in ("z", "t", "u", "a", "c", "ss"):
                self.refused(self.with_line(number, f"on {tag} go {name}"), number)

    def test_the_first_of_them(self):
        text = "\n".join(LINES).replace("go q", "go z").replace("go r", "go y")
        self.refused(text, 4)

    def test_only_if_nothing_else_is_wrong(self):
        lines = list(LINES)
        lines[3] = "on t go z"
        for number in range(5, len(LINES) + 1):
            self.refused("\n".join(lines[:number - 1] + ["a b"] + lines[number:]), number)

    def test_only_if_no_line_is_missing(self):
        lines = list(LINES)
        lines[3] = "on t go z"
        for many in range(4, len(LINES)):
            self.refused("\n".join(lines[:many]), 4 if many in (9, 15) else many + 1)

    def test_a_word_that_is_no_name_comes_in_its_place(self):
        lines = list(LINES)
        lines[3] = "on t go z"
        lines[6] = "on u go none"
        self.refused("\n".join(lines), 7)

    def test_it_comes_ahead_of_empty_sums(self):
        text = FOLD.replace("end none", "end a")
        with self.assertRaises(EmptySum):
            Loop(text)
        self.refused(text + "\nstate q\non t go z\nend none", 12)
        self.refused(text + "\nstate q", 12)


if __name__ == "__main__":
    unittest.main()
