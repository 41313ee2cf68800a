"""How the files of the package must look: sizes, signs, imports, and where names are defined."""

import ast
import pathlib
import unittest

from flatbonds import errors

PACKAGE = pathlib.Path(__file__).resolve().parent.parent / "flatbonds"
FILES = sorted(PACKAGE.glob("*.py"))


def imports_of(tree):
    return [node for node in ast.walk(tree) if isinstance(node, (ast.Import, ast.ImportFrom))]


class LayoutTest(unittest.TestCase):
    def test_nothing_else_in_the_folder(self):
        others = [path.name for path in PACKAGE.iterdir() if path not in FILES and path.name != "__pycache__"]
        self.assertEqual(others, [])
        self.assertIn(PACKAGE / "__init__.py", FILES)

    def test_sizes_and_signs(self):
        for path in FILES:
            text = path.read_text(encoding="utf-8")
            lines = text.splitlines()
            self.assertLessEqual(len(lines), 399, path.name)
            self.assertLessEqual(max(len(line) for line in lines), 120, path.name)
            self.assertTrue(all(sign == "\n" or " " <= sign <= "~" for sign in text), path.name)

    def test_functions_are_short(self):
        for path in FILES:
            for node in ast.walk(ast.parse(path.read_text())):
                if isinstance(node, ast.FunctionDef):
                    self.assertLessEqual(node.end_lineno - node.lineno + 1, 40, node.name)

    def test_imports_are_of_the_package_and_run_one_way(self):
        needs = {}
        for path in FILES:
            nodes = imports_of(ast.parse(path.read_text()))
            self.assertTrue(all(isinstance(node, ast.ImportFrom) and node.level == 0 for node in nodes), path.name)
            self.assertTrue(all(node.module.startswith("flatbonds.") for node in nodes), path.name)
            needs["flatbonds." + path.stem] = {node.module for node in nodes}
        while needs:
            ready = [name for name in needs if not needs[name] & set(needs)]
            self.assertNotEqual(ready, [], needs)
            needs = {name: needs[name] for name in needs if name not in ready}

    def test_names_are_imported_from_where_they_are_defined(self):
        trees = {"flatbonds." + path.stem: ast.parse(path.read_text()) for path in FILES}
        for tree in trees.values():
            for node in imports_of(tree):
                defined = set()
                for each in trees[node.module].body:
                    if isinstance(each, (ast.FunctionDef, ast.ClassDef)):
                        defined.add(each.name)
                    elif isinstance(each, ast.Assign):
                        defined.add(each.targets[0].id)
                self.assertTrue({alias.name for alias in node.names} <= defined)

    def test_what_boards_rule_out_elsewhere(self):
        """As boards compare, are measured, iterated over and read by properties, some words mean too much elsewhere."""
        told = {"web", "laying", "version"}
        for path in FILES:
            for node in ast.walk(ast.parse(path.read_text())):
                self.assertNotIsInstance(node, (ast.GeneratorExp, ast.Yield, ast.YieldFrom), path.name)
                if isinstance(node, ast.Attribute):
                    self.assertFalse(node.attr in told and isinstance(node.ctx, ast.Store), (path.name, node.lineno))
                    self.assertFalse(node.attr in ("keys", "sort"), (path.name, node.lineno))
                if isinstance(node, ast.ImportFrom):
                    self.assertNotIn(node.module, ("itertools", "heapq"))
                if isinstance(node, ast.ExceptHandler):
                    self.assertIn(node.type.id, vars(errors), (path.name, node.lineno))
                    self.assertIsNone(node.name, (path.name, node.lineno))


if __name__ == "__main__":
    unittest.main()
