"""What loops give: trees, runs, steps, single loops."""

import unittest

from foldplans.errors import BadTag
from foldplans.loops import Loop
from tests import reference
from tests.loop_texts import BACK, DOUBLED, FOLD, KEPT, SILENT, SWAP, Draw
from tests.samples import Soon, left_comb, right_comb

BY_HAND = (FOLD, BACK, SWAP, KEPT, SILENT, DOUBLED)


def drawn(many):
    """Texts in which no empty sum is used."""
    for number in range(many):
        yield Draw(number).careful(
            ["t", "u", "v"][:1 + number % 3], ["a", "b", "c", "d"][:1 + number % 4], ["p", "q", "r"][:1 + number % 3]
        )


def logged(calls):
    """An operation that puts texts together and writes down its calls."""

    def operation(x, y):
        calls.append((x, y))
        return f"({x} {y})"

    return operation


class TestTree(unittest.TestCase):
    def test_against_a_run_of_the_test(self):
        several = 0
        for text in (*BY_HAND, *drawn(300)):
            loop = Loop(text)
            for row in reference.rows_up_to(loop.tags, 10 if len(loop.tags) == 1 else 6 - len(loop.tags)):
                told = reference.tree(text, row)
                self.assertEqual(loop.tree(row), told, (text, row))
                several += isinstance(told, tuple)
        self.assertGreater(several, 1000)

    def test_tuples_of_tags(self):
        self.assertEqual(Loop(FOLD).tree(("t", "t", "t")), ((0, 1), 2))

    def test_plain_tuples_and_numbers(self):
        found = Loop(BACK).tree(["t", "t"])
        self.assertEqual([found, type(found), type(found[0])], [(1, 0), tuple, int])

    def test_the_row_is_not_changed(self):
        row = ["t", "t"]
        Loop(FOLD).tree(row)
        self.assertEqual(row, ["t", "t"])

    def test_one_assignment_needs_what_another_one_throws_away(self):
        text = "tags t\nsums a b\nstate s\non t go r\na = x\nb = x\nend none\nstate r\non t go r\n{}\n{}\nend {}"
        for lines in (("a = b", "b = a + x"), ("b = a + x", "a = b")):
            loop = Loop(text.format(*lines, "a + b"))
            self.assertEqual(loop.tree(["t"] * 2), (0, (0, 1)))
            self.assertEqual(loop.tree(["t"] * 3), ((0, 1), (0, 2)))
            self.assertEqual(loop.tree(["t"] * 4), ((0, 2), ((0, 1), 3)))
        self.assertEqual(Loop(text.format("a = x", "b = a", "a + b")).tree(["t"] * 3), (2, 1))
        for lines in (("a = x + b", "b = x"), ("b = x", "a = x + b")):
            self.assertEqual(Loop(text.format(*lines, "a")).tree(["t"] * 3), (2, 1))
            self.assertEqual(Loop(text.format(*lines, "a + b")).tree(["t"] * 3), ((2, 1), 2))

    def test_rows_of_300_tags(self):
        row = list(range(300))
        with Soon():
            self.assertTrue(Loop(FOLD).tree(["t"] * 300) == left_comb(row))
            self.assertTrue(Loop(BACK).tree(["t"] * 300) == right_comb(row[::-1]))
        lanes = "tags t\nsums a b\nstate o\non t go p\na = x\nend none\nstate p\non t go q\nb = x\nend a\n" \
                "state q\non t go r\na = a + x\nend a + b\nstate r\non t go q\nb = x + b\nend a + b"
        with Soon():
            found = Loop(lanes).tree(["t"] * 300)
        self.assertTrue(found == (left_comb(row[::2]), right_comb(row[::-1][::2])))
        twice = FOLD.replace("a = a + x", "a = x + ( a + x )")
        with Soon():
            self.assertTrue(Loop(twice).tree(["t"] * 300) == reference.tree(twice, ["t"] * 300))


class TestBadTag(unittest.TestCase):
    def told(self, call):
        with self.assertRaises(BadTag) as caught:
            call()
        return caught.exception.index

    def test_tree_tells_the_first_index(self):
        loop = Loop(SWAP)
        for wrong in ("v", "", "T", "s", "p", "a", "b", "x", "tt", "none"):
            for at in (0, 1, 2, 5):
                row = ["t", "u", "t", "t", "t", "u"]
                row[at] = wrong
                self.assertEqual(self.told(lambda: loop.tree(row)), at)
                self.assertEqual(self.told(lambda: loop.tree(row + ["w"])), at)
        self.assertEqual(self.told(lambda: loop.tree(["t"] * 299 + ["w"])), 299)

    def test_run_tells_it_when_it_comes_there(self):
        for at in range(4):
            items = [("t", f"{k}") for k in range(4)]
            items[at] = ("u", "wrong")
            items.append(("v", "wrong"))
            calls = []
            self.assertEqual(self.told(lambda: Loop(FOLD).run(items, logged(calls))), at)
            self.assertEqual(len(calls), max(0, at - 1))

    def test_an_error_of_the_operation_comes_ahead_of_it(self):
        with self.assertRaises(ZeroDivisionError):
            Loop(FOLD).run([("t", 1), ("t", 0), ("v", 1)], lambda x, y: x // y)

    def test_calls_tell_it(self):
        self.assertEqual(self.told(lambda: Loop(FOLD)([("t", 1), ("t", 2), ("a", 3)])), 2)

    def test_steps_tell_it_when_they_come_there(self):
        for at in range(4):
            items = [("t", f"{k}") for k in range(4)]
            items[at] = ("r", "wrong")
            calls = []
            walk = Loop(FOLD).steps(items, logged(calls))
            for _ in range(at + 1):
                next(walk)
            self.assertEqual(len(calls), max(0, at - 1))
            self.assertEqual(self.told(lambda: next(walk)), at)


class TestRun(unittest.TestCase):
    def test_values_and_the_order_of_the_calls(self):
        for text in (*BY_HAND, *drawn(200)):
            loop = Loop(text)
            for row in reference.rows_up_to(loop.tags, 7 if len(loop.tags) == 1 else 6 - len(loop.tags)):
                items = [(tag, f"{at}") for at, tag in enumerate(row)]
                calls, told = [], []
                found = loop.run(items, logged(calls))
                self.assertEqual(found, reference.run(text, items, logged(told)))
                self.assertEqual(calls, told, (text, row))

    def test_calls_for_what_is_thrown_away(self):
        calls = []
        self.assertIs(Loop(DOUBLED).run([("t", "p"), ("t", "q")], logged(calls)), None)
        self.assertEqual(calls, [("p", "p"), ("q", "q")])

    def test_left_side_first(self):
        text = "tags t\nsums a b c\nstate s\non t go r\nb = x\na = x\nend none\nstate r\non t go q\n" \
               "c = ( x + a ) + ( b + x )\nend none\nstate q\non t go q\nend c"
        calls = []
        found = Loop(text).run([("t", "p"), ("t", "q")], logged(calls))
        self.assertEqual(calls, [("q", "p"), ("p", "q"), ("(q p)", "(p q)")])
        self.assertEqual(found, "((q p) (p q))")

    def test_assignments_in_their_order_then_the_end(self):
        text = "tags t\nsums a b\nstate s\non t go r\nb = x\na = x\nend none\nstate r\non t go r\n" \
               "b = b + x\na = x + a\nend b + a"
        calls = []
        Loop(text).run([("t", "p"), ("t", "q")], logged(calls))
        self.assertEqual(calls, [("p", "q"), ("q", "p"), ("(p q)", "(q p)")])

    def test_no_result_and_results_that_count_as_nothing(self):
        self.assertIs(Loop(FOLD).run([], max), None)
        self.assertEqual(Loop(FOLD).run([("t", 0)], max), 0)
        self.assertEqual(Loop(FOLD).run([("t", []), ("t", ())], lambda x, y: False), False)
        self.assertIs(Loop(SILENT).run([("t", 1)] * 5, max), None)

    def test_falsy_values_are_held(self):
        loop = Loop(SWAP)
        items = [("t", 0), ("t", 0), ("t", 0)]
        self.assertEqual(loop.run(items, lambda x, y: 0), 0)
        self.assertEqual(list(loop.steps(items, lambda x, y: 0))[-1], ("p", {"a": 0, "b": 0}))

    def test_tuples_of_items_and_items_that_stay(self):
        items = [("t", 1), ("t", 2)]
        self.assertEqual(Loop(FOLD).run(tuple(items), lambda x, y: x - y), -1)
        Loop(FOLD).run(items, lambda x, y: x - y)
        self.assertEqual(items, [("t", 1), ("t", 2)])

    def test_long_lists(self):
        items = [("t", k) for k in range(20000)]
        with Soon():
            self.assertEqual(Loop(FOLD).run(items, lambda x, y: x + y), 19999 * 10000)


class TestCall(unittest.TestCase):
    def test_the_plus_of_the_values(self):
        self.assertEqual(Loop(FOLD)([("t", 1), ("t", 2), ("t", 4)]), 7)
        self.assertEqual(Loop(BACK)([("t", "p"), ("t", "q"), ("t", "r")]), "rqp")
        self.assertIs(Loop(FOLD)([]), None)

    def test_values_stay_as_they_are(self):
        lists = [[1], [2], [3]]
        for text in (FOLD, BACK, FOLD.replace("a = a + x", "a = a + x + x")):
            Loop(text)([("t", one) for one in lists])
            self.assertEqual(lists, [[1], [2], [3]])
        self.assertEqual(Loop(FOLD)([("t", one) for one in lists]), [1, 2, 3])
        once = Loop(FOLD)([("t", lists[0])])
        self.assertEqual(once, [1])

    def test_held_lists_stay_as_they_are(self):
        walk = list(Loop(FOLD).steps([("t", [1]), ("t", [2]), ("t", [3])], lambda x, y: x + y))
        self.assertEqual([held.get("a") for _, held in walk], [None, [1], [1, 2], [1, 2, 3]])


class TestSteps(unittest.TestCase):
    def test_against_a_walk_of_the_test(self):
        for text in (*BY_HAND, *drawn(100)):
            loop = Loop(text)
            for row in reference.rows_up_to(loop.tags, 3):
                items = [(tag, f"{at}") for at, tag in enumerate(row)]
                calls, told = [], []
                found = list(loop.steps(items, logged(calls)))
                self.assertEqual(found, reference.walk(text, items, logged(told)))
                self.assertEqual(calls, told)

    def test_the_operation_waits_for_the_generator(self):
        calls = []
        walk = Loop(FOLD).steps([("t", "p"), ("t", "q"), ("t", "r")], logged(calls))
        self.assertEqual(calls, [])
        self.assertEqual([next(walk), next(walk), calls], [("s", {}), ("r", {"a": "p"}), []])
        self.assertEqual([next(walk), calls], [("r", {"a": "(p q)"}), [("p", "q")]])
        self.assertEqual([next(walk), len(calls)], [("r", {"a": "((p q) r)"}), 2])
        self.assertEqual([list(walk), len(calls)], [[], 2])

    def test_a_walk_that_is_left_early(self):
        calls = []
        walk = Loop(FOLD).steps([("t", "p"), ("t", "q"), ("t", "r")], logged(calls))
        for state, _ in walk:
            if len(calls) == 1:
                break
        self.assertEqual([state, calls], ["r", [("p", "q")]])

    def test_the_end_line_is_not_computed(self):
        calls = []
        list(Loop(SWAP).steps([("t", "p")], logged(calls)))
        self.assertEqual(calls, [])

    def test_the_dicts_are_new(self):
        walk = Loop(SWAP).steps([("t", "p"), ("t", "q"), ("u", "r")], logged([]))
        found = []
        for state, held in walk:
            found.append((state, dict(held)))
            held.clear()
            held["a"] = held["b"] = "wrong"
        self.assertEqual(found, [("s", {}), ("p", {"a": "p", "b": "p"}), ("p", {"a": "p", "b": "(p q)"}), ("s", {})])

    def test_side_by_side(self):
        loop = Loop(SWAP)
        one = loop.steps([("t", "p"), ("t", "q"), ("t", "r")], logged([]))
        two = loop.steps([("t", "v"), ("u", "w"), ("t", "y")], logged([]))
        for left, right in (
            (("s", {}), ("s", {})),
            (("p", {"a": "p", "b": "p"}), ("p", {"a": "v", "b": "v"})),
            (("p", {"a": "p", "b": "(p q)"}), ("s", {})),
            (("p", {"a": "(p q)", "b": "(p r)"}), ("p", {"a": "y", "b": "y"})),
        ):
            self.assertEqual([next(one), next(two)], [left, right])
        self.assertEqual(loop.run([("t", 1), ("t", 2)], lambda x, y: x + y), 4)

    def test_lists_of_items_that_change_behind_the_first_step(self):
        items = [("t", 1), ("t", 2)]
        walk = Loop(FOLD).steps(items, lambda x, y: x + y)
        next(walk)
        items.append(("wrong", 3))
        self.assertEqual(list(walk), [("r", {"a": 1}), ("r", {"a": 3})])


class TestSingle(unittest.TestCase):
    def test_by_hand(self):
        for text, told in ((FOLD, True), (BACK, True), (SILENT, True), (SWAP, False), (KEPT, False), (DOUBLED, False)):
            self.assertIs(Loop(text).is_single, told)
        self.assertIs(Loop(FOLD.replace("a + x", "a + ( x )")).is_single, True)
        self.assertIs(Loop(FOLD.replace("a + x", "x + a + x")).is_single, False)

    def test_lines_that_no_list_reaches_do_not_count(self):
        far = "\nstate q\non t go q\na = x + x\nend none"
        self.assertIs(Loop(FOLD + far).is_single, True)
        self.assertIs(Loop(FOLD.replace("on t go r\na = a + x", "on t go q\na = a + x") + far).is_single, False)

    def test_texts_that_are_drawn(self):
        seen = {True: 0, False: 0}
        for number in range(300):
            states = ["p", "q", "r", "s"]
            text = Draw(number).careful(["t", "u"][:1 + number % 2], ["a", "b"], states, 1 + number % 4 // 3)
            spelled = reference.Spelled(text)
            told = True
            for row in reference.rows_up_to(spelled.tags, 4):
                state = reference.walk(text, [(tag, 0) for tag in row], max)[-1][0]
                for tag in spelled.tags:
                    words = [word for _, right in spelled.changes[state, tag] for word in right]
                    told = told and words.count("x") < 2
            self.assertIs(Loop(text).is_single, told, text)
            seen[told] += 1
        self.assertGreater(min(seen.values()), 10)

    def test_it_cannot_be_assigned(self):
        with self.assertRaises(AttributeError):
            Loop(FOLD).is_single = False


if __name__ == "__main__":
    unittest.main()
