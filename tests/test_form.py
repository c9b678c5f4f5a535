"""The form of the package: where things are defined, and rules that a reader cannot check at once."""

import ast
import builtins
import os
import unittest

PACKAGE = os.path.join(os.path.dirname(os.path.dirname(os.path.abspath(__file__))), "foldplans")

ORDER = ["__le__", "__lt__", "__ge__", "__gt__"]

# The interface that there is so far: functions, and classes with their methods.
INTERFACE = {
    "rules.py": {
        "all_rules": [],
        "all_kinds": [],
        "rules_of": [],
        "Rules": [
            "__init__", "of", "all_of", "listed", "kind", "closed", "__contains__", "__len__", "__bool__",
            "__or__", "__and__", "__sub__", "__xor__", "__eq__", *ORDER,
        ],
    },
    "trees.py": {"letters": [], "do_agree": [], "value_of": []},
    "loops.py": {"Loop": ["__init__", "__str__", "__eq__", "is_single", "tree", "run", "__call__", "steps"]},
    "tables.py": {
        "Table": [
            "__init__", "of", "read", "__getitem__", "__setitem__", "__call__", "__str__", "__eq__", "rules", "kind",
            "breaks", "unlike_at", "generated", "part", "__mul__", "__invert__", "copied",
        ],
    },
    "rowsets.py": {
        "RowSet": [
            "none", "every", "with_tag", "of_length", "of_rows", "behind", "turned", "rank", "number", "how_many",
            "earliest", "is_finite", "least_states", "__contains__", "__bool__", "__or__", "__and__", "__sub__",
            "__xor__", "__invert__", "__add__", "__eq__", *ORDER,
        ],
    },
    "costs.py": {"cost": [], "waste": [], "greatest_waste": [], "greatest_lead": []},
    "compare.py": {
        "agree": [], "parting": [], "Parting": ["__init__"], "least_kinds": [], "agreeing_tags": [], "parting_in": [],
        "is_order_free": [], "result_rows": [], "parting_rows": [],
    },
    "rowkinds.py": {"kinds_at": [], "rows_by_kinds": []},
    "heights.py": {"height": [], "greatest_height": [], "high_rows": []},
    "makers.py": {
        "fold": [], "back_fold": [], "lanes": [], "blocks": [], "earliest": [], "latest": [], "every": [],
        "by_tag": [], "without": [], "restarting": [], "joined": [],
    },
    "least.py": {"width": [], "normal_form": [], "held_apart": []},
    "matchings.py": {"matching": [], "is_matching": []},
    "pieces.py": {"Summary": ["__init__", "behind", "parts", "then", "result", "most"]},
    "books.py": {
        "Book": [
            "__init__", "__setitem__", "__getitem__", "first_of", "__contains__", "__len__", "loop_names", "drop",
            "kind", "set_kind", "undo", "attempt",
        ],
    },
}

# What the package needs of Python's own names and methods.
BUILTINS = set(
    "len range enumerate zip min max sum abs sorted int str bool list tuple dict isinstance any all super "
    "ValueError TypeError NotImplemented classmethod property".split()
)
METHODS = set("append extend pop get setdefault items keys values index count copy clear split join replace upper startswith "
              "bit_length".split())
FREE_OF_NAMES = set("type typing enum Enum Flag Generic Protocol ABC namedtuple".split())


def files():
    names = [name for name in os.listdir(PACKAGE) if name != "__pycache__"]
    for name in sorted(names):
        with open(os.path.join(PACKAGE, name), encoding="utf-8") as file:
            yield name, file.read()


def nodes(*kinds):
    """The name of the file and the node, for all nodes of these kinds."""
    for name, text in files():
        for node in ast.walk(ast.parse(text)):
            if isinstance(node, kinds):
                yield name, node


def functions():
    """All functions and methods of the package by their names: lists of nodes."""
    found = {}
    for _, node in nodes(ast.FunctionDef):
        found.setdefault(node.name, []).append(node)
    return found


def is_operator(node):
    """Whether a function is one that may change nothing."""
    decorated = any(isinstance(one, ast.Name) and one.id == "property" for one in node.decorator_list)
    special = node.name.startswith("__") and node.name not in ("__init__", "__setitem__", "__call__")
    return decorated or special


def called_names(node):
    """The names that a function calls, those of methods included."""
    for call in ast.walk(node):
        if isinstance(call, ast.Call):
            if isinstance(call.func, ast.Name):
                yield call.func.id
            elif isinstance(call.func, ast.Attribute) and call.func.attr != "__init__":
                yield call.func.attr


# What is iterated on the spot and not handed on: calls of these builtins, and of these methods.
VIEWS = ("items", "keys", "values")
ITERATED = ("range", "zip", "enumerate", "reversed", *VIEWS)
TAKERS = ("list", "tuple", "dict", "sorted", "sum", "any", "all", "enumerate", "zip", "bytes")


def called(node):
    """The name of the function or method that a node calls, None if it is no call."""
    if not isinstance(node, ast.Call):
        return None
    return getattr(node.func, "id", getattr(node.func, "attr", None))


def is_iterated_call(node):
    """Whether a node is a call whose result has to be iterated on the spot."""
    name = called(node)
    return name in ITERATED and isinstance(node.func, ast.Attribute) == (name in VIEWS)


def is_asked_by_in(what, parent):
    """Whether a comparison asks only what is in a range or among the keys of a dict."""
    return isinstance(parent, ast.Compare) and parent.comparators == [what] and isinstance(
        parent.ops[0], (ast.In, ast.NotIn)
    )


def is_taken_at_once(what, name, parent):
    """Whether what a call of this name gives, `what`, is iterated by the node around it."""
    if isinstance(parent, (ast.For, ast.comprehension)):
        return parent.iter is what
    taker = called(parent)
    if taker is None or parent.args[:1] != [what]:
        return name in ("range", "keys") and is_asked_by_in(what, parent)
    if isinstance(parent.func, ast.Attribute):
        return taker == "join" and isinstance(parent.func.value, ast.Constant)
    if taker in ("min", "max"):
        return len(parent.args) == 1 and all(one.arg == "default" for one in parent.keywords)
    return taker in TAKERS or taker == "len" and name in ("range", *VIEWS) or taker == "reversed" and name == "range"


def parents_in(tree):
    return {child: node for node in ast.walk(tree) for child in ast.iter_child_nodes(node)}


def is_kept_well(name, target, function, parents):
    """Whether a variable of a function keeps what a call of this name gives, and only for being iterated."""
    uses = [node for node in ast.walk(function) if isinstance(node, ast.Name) and node.id == target.id]
    if name != "range" or [node for node in uses if isinstance(node.ctx, ast.Store)] != [target]:
        return False
    for node in uses:
        around = [parents[node]]
        while around[-1] is not function:
            around.append(parents[around[-1]])
        if any(isinstance(one, (ast.Lambda, ast.FunctionDef, ast.GeneratorExp)) for one in around[:-1]):
            return False
        is_index = isinstance(around[0], ast.Subscript) and not isinstance(around[0].slice, ast.Slice)
        if node is not target and not is_index and not is_taken_at_once(node, name, around[0]):
            return False
    return True


def calls_not_iterated_at_once(tree):
    """The lines of the calls that give what has to be iterated on the spot, but is handed on or stored (L23)."""
    parents = parents_in(tree)
    for node in ast.walk(tree):
        if is_iterated_call(node):
            parent = parents[node]
            function = parent
            while not isinstance(function, (ast.FunctionDef, ast.Module)):
                function = parents[function]
            is_kept = (
                isinstance(parent, ast.Assign)
                and isinstance(function, ast.FunctionDef)
                and isinstance(parent.targets[0], ast.Name)
                and len(parent.targets) == 1
                and is_kept_well(called(node), parent.targets[0], function, parents)
            )
            if not is_kept and not is_taken_at_once(node, called(node), parent):
                yield node.lineno


class TestPlaces(unittest.TestCase):
    def test_the_folder_has_only_python_files(self):
        for name, _ in files():
            self.assertRegex(name, r"^[a-z_]+\.py$")

    def test_sizes_and_characters(self):
        for name, text in files():
            lines = text.split("\n")
            self.assertLessEqual(len(lines), 399, name)
            for line in lines:
                self.assertLessEqual(len(line), 120, (name, line))
                self.assertRegex(line, r"^[ -~]*$", name)

    def test_functions_are_short(self):
        for name, node in nodes(ast.FunctionDef):
            self.assertLessEqual(node.end_lineno - node.lineno + 1, 40, (name, node.name))

    def test_imports_name_the_very_file_of_the_package(self):
        texts = dict(files())
        for name, node in nodes(ast.Import, ast.ImportFrom):
            self.assertIsInstance(node, ast.ImportFrom, name)
            package, module = node.module.split(".")
            self.assertEqual(package, "foldplans")
            defined = [part.name for part in ast.parse(texts[module + ".py"]).body if hasattr(part, "name")]
            assigned = [
                target.id for part in ast.parse(texts[module + ".py"]).body
                if isinstance(part, ast.Assign) for target in part.targets
            ]
            for one in node.names:
                self.assertIn(one.name, defined + assigned, name)
                self.assertIs(one.asname, None)

    def test_the_interface_is_defined_in_its_files(self):
        texts = dict(files())
        for name, listed in INTERFACE.items():
            found = {
                node.name: [part.name for part in node.body if isinstance(part, ast.FunctionDef)]
                for node in ast.parse(texts[name]).body
                if isinstance(node, (ast.FunctionDef, ast.ClassDef))
            }
            for thing, methods in listed.items():
                self.assertIn(thing, found)
                for method in methods:
                    self.assertIn(method, found[thing])


class TestWords(unittest.TestCase):
    def test_statements_and_signs_that_are_not_used(self):
        barred = (ast.With, ast.Global, ast.Nonlocal, ast.AsyncFunctionDef, ast.Match, ast.Div,
                  ast.GeneratorExp, ast.Set, ast.SetComp, ast.NamedExpr, ast.JoinedStr, ast.Mod, ast.Pow,
                  ast.AnnAssign)
        for name, node in nodes(*barred):
            self.fail((name, node))

    def test_no_error_is_caught(self):
        for name, node in nodes(ast.Try):
            self.assertEqual((name, node.handlers, node.orelse), ("books.py", [], []))

    def test_names_are_no_builtins_no_imports_no_classes(self):
        for name, text in files():
            tree = ast.parse(text)
            # A doctest that has run before leaves a builtin called _.
            taken = set(dir(builtins)) - {"_"}
            taken |= {node.name for node in ast.walk(tree) if isinstance(node, ast.ClassDef)}
            taken |= {one.name for node in ast.walk(tree) if isinstance(node, ast.ImportFrom) for one in node.names}
            for node in ast.walk(tree):
                if isinstance(node, ast.arg):
                    self.assertNotIn(node.arg, taken, name)
                if isinstance(node, ast.Name) and isinstance(node.ctx, ast.Store):
                    self.assertNotIn(node.id, taken, name)

    def test_builtins_and_methods_of_values(self):
        own = {node.name for _, node in nodes(ast.FunctionDef, ast.ClassDef)}
        for name, node in nodes(ast.Call):
            if isinstance(node.func, ast.Name) and node.func.id in dir(builtins):
                self.assertIn(node.func.id, BUILTINS, name)
            if isinstance(node.func, ast.Attribute):
                self.assertIn(node.func.attr, own | METHODS, name)

    def test_words_that_do_not_occur(self):
        for name, node in nodes(ast.Name, ast.Attribute, ast.arg, ast.keyword):
            word = getattr(node, "id", getattr(node, "attr", getattr(node, "arg", None)))
            self.assertNotIn(word, FREE_OF_NAMES | {"register", "mro", "elements", "open", "input", "law"}, name)

    def test_is_stands_beside_none_and_truth_values_alone(self):
        for name, node in nodes(ast.Compare):
            for sign, right in zip(node.ops, node.comparators):
                if isinstance(sign, (ast.Is, ast.IsNot)):
                    self.assertIsInstance(right, ast.Constant, name)

    def test_what_is_ordered_is_plainly_numbers_or_texts(self):
        for name, node in nodes(ast.Call):
            if isinstance(node.func, ast.Name) and node.func.id in ("sorted", "min", "max"):
                keys = [one.value.id for one in node.keywords if one.arg == "key"]
                first = node.args[0]
                element = getattr(first, "elt", None)
                plain = isinstance(element, ast.Call) and element.func.id in ("int", "str")
                self.assertTrue(plain or keys == ["int"], (name, node.lineno))

    def test_stars_stand_before_names(self):
        for name, node in nodes(ast.Starred):
            self.assertIsInstance(node.value, (ast.Name, ast.Attribute), (name, node.lineno))

    def test_module_level_has_plain_values_alone(self):
        for name, text in files():
            for node in ast.parse(text).body:
                if isinstance(node, ast.Expr):
                    self.assertIsInstance(node.value, ast.Constant, name)
                else:
                    self.assertIsInstance(node, (ast.ImportFrom, ast.FunctionDef, ast.ClassDef, ast.Assign), name)
                if isinstance(node, ast.Assign):
                    for part in ast.walk(node.value):
                        self.assertNotIsInstance(part, (ast.Call, ast.ListComp, ast.DictComp), name)

    def test_attributes_are_assigned_somewhere(self):
        stored = {node.attr for _, node in nodes(ast.Attribute) if isinstance(node.ctx, ast.Store)}
        own = {node.name for _, node in nodes(ast.FunctionDef)}
        for name, node in nodes(ast.Attribute):
            if node.attr != "__init__":
                self.assertIn(node.attr, stored | own | METHODS, name)
        methods = {
            part.name for _, node in nodes(ast.ClassDef) for part in node.body if isinstance(part, ast.FunctionDef)
        }
        self.assertEqual(stored & methods, set())


class TestIteratedAtOnce(unittest.TestCase):
    """Ranges and the like are iterated on the spot: not handed on to functions of the package, not stored."""

    def test_in_the_package(self):
        for name, text in files():
            self.assertEqual([(name, line) for line in calls_not_iterated_at_once(ast.parse(text))], [])

    def found_in(self, row):
        text = "def f(d, k, xs):\n    " + row.replace("\n", "\n    ")
        return list(calls_not_iterated_at_once(ast.parse(text)))

    def test_what_is_handed_on_or_stored_is_found(self):
        rows = [
            "return g(range(k))", "return xs.g(k, range(k))", "return g(at=range(k))", "return [g(range(n)) for n in xs]",
            "return g(zip(xs, xs))", "return g(enumerate(xs))", "return g(reversed(xs))", "return g(d.items())",
            "return g(d.keys())", "return g(d.values())", "return range(k)", "return [range(k)]", "return (d.items(), 1)",
            "xs.held = range(k)", "xs[0] = d.values()", "xs.append(range(k))", "return {1: range(k)}", "return set(d.values())",
            "return len(zip(xs, xs))", "return len(list(xs)) == range(k)", "return max(range(k), key=int)",
            "return max(k, range(k))", "return reversed(d.items())", "return zip(xs, range(k))", "return xs.join(d.keys())",
            "return range(k) if k else 0", "rows = range(k)\nreturn g(rows)", "rows = range(k)\nrows = xs\nreturn len(rows)",
            "rows = range(k)\nreturn lambda n: rows[n]", "rows = range(k)\nxs.held = rows", "rows = range(k)\nreturn rows[1:]",
            "rows = other = range(k)\nreturn len(rows)", "rows = d.items()\nreturn rows", "return k in d.values()",
        ]
        for row in rows:
            self.assertEqual(len(self.found_in(row)) > 0, True, row)

    def test_what_is_iterated_on_the_spot_may_stand(self):
        rows = [
            "for n in range(k):\n    pass", "return [a for a, b in zip(xs, xs) if a in range(k)]", "return list(range(k))",
            "return sorted(d.items(), key=int)", "return sum(range(k))", "return max(d.values(), default=0)",
            "return ' '.join(d.keys())", "return list(zip(range(k), xs))", "return list(enumerate(d.values()))",
            "return len(range(k)) + len(d.items())", "return list(reversed(range(k)))", "return k in d.keys()",
            "rows = range(k)\nreturn [rows[n] for n in rows if n in rows] + list(rows)", "return g(list(range(k)))",
            "return dict(zip(xs, xs))", "return {a: b for a, b in d.items()}",
        ]
        for row in rows:
            self.assertEqual(self.found_in(row), [], row)


class TestOperators(unittest.TestCase):
    """Operators, properties and what they call change nothing that they have not made themselves."""

    def reached(self):
        known = functions()
        constructors = {
            node.name: [part for part in node.body if getattr(part, "name", None) == "__init__"]
            for _, node in nodes(ast.ClassDef)
        }
        waiting = [node for found in known.values() for node in found if is_operator(node)]
        found = []
        while waiting:
            node = waiting.pop()
            if node not in found:
                found.append(node)
                for name in called_names(node):
                    waiting += constructors.get(name, known.get(name, []))
        return found

    def owner(self, node):
        """The name in front of attributes, items and calls of methods."""
        while not isinstance(node, ast.Name):
            node = node.func if isinstance(node, ast.Call) else node.value
        return node.id

    def test_no_function_that_was_passed_is_called(self):
        own = set(functions()) | {node.name for _, node in nodes(ast.ClassDef)} | BUILTINS | METHODS
        for node in self.reached():
            for name in called_names(node):
                self.assertTrue(name in own, (node.name, name))

    def test_what_is_changed_was_made_there(self):
        for node in self.reached():
            given = {one.arg for one in node.args.args}
            for part in ast.walk(node):
                if isinstance(part, (ast.Attribute, ast.Subscript)) and isinstance(part.ctx, ast.Store):
                    if node.name == "__init__" and self.owner(part) == "self":
                        self.assertIsInstance(part, ast.Attribute)
                    else:
                        self.assertNotIn(self.owner(part), given, (node.name, part.lineno))

    def test_what_is_changed_is_no_target_of_a_loop(self):
        for node in self.reached():
            looped = set()
            for part in ast.walk(node):
                if isinstance(part, (ast.For, ast.comprehension)):
                    looped |= {one.id for one in ast.walk(part.target) if isinstance(one, ast.Name)}
            for part in ast.walk(node):
                if isinstance(part, ast.Subscript) and isinstance(part.ctx, ast.Store):
                    self.assertNotIn(self.owner(part), looped, (node.name, part.lineno))
                if isinstance(part, ast.Call) and isinstance(part.func, ast.Attribute):
                    if part.func.attr in ("append", "extend", "pop", "clear", "setdefault"):
                        self.assertNotIn(self.owner(part.func), looped, (node.name, part.lineno))

    def test_nothing_that_was_given_is_added_to(self):
        for node in self.reached():
            given = {one.arg for one in node.args.args}
            for call in ast.walk(node):
                if isinstance(call, ast.Call) and isinstance(call.func, ast.Attribute):
                    if call.func.attr in ("append", "extend", "pop", "clear", "setdefault"):
                        self.assertNotIn(self.owner(call.func), given, (node.name, call.lineno))


if __name__ == "__main__":
    unittest.main()
