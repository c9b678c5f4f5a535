"""The form of the package: where things are defined, and limits that a reader cannot see at once."""

import ast
import os
import unittest

PACKAGE = os.path.join(os.path.dirname(os.path.dirname(os.path.abspath(__file__))), "foldplans")

# The interface that there is so far: functions, and classes with their methods.
INTERFACE = {
    "rules.py": {
        "all_rules": [],
        "all_kinds": [],
        "rules_of": [],
        "Rules": [
            "__init__", "of", "all_of", "listed", "kind", "closed", "__contains__", "__len__", "__bool__",
            "__or__", "__and__", "__sub__", "__xor__", "__eq__", "__le__", "__lt__", "__ge__", "__gt__",
        ],
    },
    "trees.py": {"letters": [], "do_agree": [], "value_of": []},
}


def files():
    names = [name for name in os.listdir(PACKAGE) if name != "__pycache__"]
    for name in sorted(names):
        with open(os.path.join(PACKAGE, name), encoding="utf-8") as file:
            yield name, file.read()


class TestForm(unittest.TestCase):
    def test_the_folder_has_only_python_files(self):
        for name, _ in files():
            self.assertRegex(name, r"^[a-z_]+\.py$")

    def test_sizes_and_characters(self):
        for name, text in files():
            lines = text.split("\n")
            self.assertLessEqual(len(lines), 399, name)
            for line in lines:
                self.assertLessEqual(len(line), 120, (name, line))
                self.assertRegex(line, r"^[ -~]*$", name)

    def test_functions_are_short(self):
        for name, text in files():
            for node in ast.walk(ast.parse(text)):
                if isinstance(node, ast.FunctionDef):
                    self.assertLessEqual(node.end_lineno - node.lineno + 1, 40, (name, node.name))

    def test_imports_name_the_package_alone(self):
        for name, text in files():
            for node in ast.walk(ast.parse(text)):
                self.assertNotIsInstance(node, ast.Import, name)
                if isinstance(node, ast.ImportFrom):
                    self.assertTrue(node.module.startswith("foldplans."), (name, node.module))

    def test_the_interface_is_defined_in_its_files(self):
        texts = dict(files())
        for name, listed in INTERFACE.items():
            found = {
                node.name: [part.name for part in node.body if isinstance(part, ast.FunctionDef)]
                for node in ast.parse(texts[name]).body
                if isinstance(node, (ast.FunctionDef, ast.ClassDef))
            }
            for thing, methods in listed.items():
                self.assertIn(thing, found)
                for method in methods:
                    self.assertIn(method, found[thing])


if __name__ == "__main__":
    unittest.main()
