"""How the files of the package must look: sizes, signs, imports, and where names are defined."""

import ast
import pathlib
import unittest

from flatbonds import errors

PACKAGE = pathlib.Path(__file__).resolve().parent.parent / "flatbonds"
FILES = sorted(PACKAGE.glob("*.py"))


def imports_of(tree):
    return [node for node in ast.walk(tree) if isinstance(node, (ast.Import, ast.ImportFrom))]


CHANGING = {"append", "clear", "extend", "insert", "pop", "remove", "reverse", "setdefault", "sort", "update"}
LOOPS = (ast.For, ast.ListComp, ast.SetComp, ast.DictComp, ast.GeneratorExp)


def texts_of(node):
    """The texts of the names, fields and items for which the node may stand as it is, without a copy."""
    if isinstance(node, ast.IfExp):
        return texts_of(node.body) + texts_of(node.orelse)
    if isinstance(node, ast.BoolOp):
        return [text for each in node.values for text in texts_of(each)]
    return [ast.unparse(node)] if isinstance(node, (ast.Name, ast.Attribute, ast.Subscript)) else []


def walked_by(node):
    """The texts of what goes through this node, which stands behind the "in" of a loop."""
    if isinstance(node, ast.Call) and isinstance(node.func, ast.Name):
        args = node.args if node.func.id in ("enumerate", "zip", "reversed") else []
        return [text for each in args for text in walked_by(each)]
    if isinstance(node, ast.Call) and isinstance(node.func, ast.Attribute):
        return texts_of(node.func.value) if node.func.attr in ("items", "keys", "values") else []
    return texts_of(node)


def changed_by(node):
    """The texts of what this one node changes."""
    if isinstance(node, ast.Call) and isinstance(node.func, ast.Attribute) and node.func.attr in CHANGING:
        return texts_of(node.func.value)
    if isinstance(node, ast.Subscript) and isinstance(node.ctx, (ast.Store, ast.Del)):
        return texts_of(node.value)
    return texts_of(node.target) if isinstance(node, ast.AugAssign) else []


def parted_pairs(target, value):
    """The pairs of a target and a value of an assignment, which may be one of tuples."""
    if isinstance(target, ast.Tuple) and isinstance(value, ast.Tuple):
        return [pair for each in zip(target.elts, value.elts) for pair in parted_pairs(*each)]
    return [(target, value)]


def joined_texts(function):
    """For each text that is assigned, or is assigned to one, the set of all that may stand for the same thing."""
    same = {}
    for node in ast.walk(function):
        for target in node.targets if isinstance(node, ast.Assign) else []:
            for one, value in parted_pairs(target, node.value):
                for pair in [(a, b) for a in texts_of(one) for b in texts_of(value)]:
                    union = {text for each in pair for text in same.get(each, {each})}
                    same.update({text: union for text in union})
    return same


def loops_that_change(function):
    """The rows at which a loop of the function changes what it walks, by what may be another name of it, too."""
    same = joined_texts(function)
    found = []
    for loop in [node for node in ast.walk(function) if isinstance(node, LOOPS)]:
        heads = [loop.iter] if isinstance(loop, ast.For) else [each.iter for each in loop.generators]
        walked = {other for head in heads for text in walked_by(head) for other in same.get(text, {text})}
        body = loop.body if isinstance(loop, ast.For) else [loop]
        for node in [each for part in body for each in ast.walk(part)]:
            if walked & set(changed_by(node)):
                found.append(node.lineno)
    return found


def functions_of(text):
    return [node for node in ast.walk(ast.parse(text)) if isinstance(node, ast.FunctionDef)]


class LayoutTest(unittest.TestCase):
    def test_nothing_else_in_the_folder(self):
        others = [path.name for path in PACKAGE.iterdir() if path not in FILES and path.name != "__pycache__"]
        self.assertEqual(others, [])
        self.assertIn(PACKAGE / "__init__.py", FILES)

    def test_sizes_and_signs(self):
        for path in FILES:
            text = path.read_text(encoding="utf-8")
            lines = text.splitlines()
            self.assertLessEqual(len(lines), 399, path.name)
            self.assertLessEqual(max(len(line) for line in lines), 120, path.name)
            self.assertTrue(all(sign == "\n" or " " <= sign <= "~" for sign in text), path.name)

    def test_functions_are_short(self):
        for path in FILES:
            for node in ast.walk(ast.parse(path.read_text())):
                if isinstance(node, ast.FunctionDef):
                    self.assertLessEqual(node.end_lineno - node.lineno + 1, 40, node.name)

    def test_imports_are_of_the_package_and_run_one_way(self):
        needs = {}
        for path in FILES:
            nodes = imports_of(ast.parse(path.read_text()))
            self.assertTrue(all(isinstance(node, ast.ImportFrom) and node.level == 0 for node in nodes), path.name)
            self.assertTrue(all(node.module.startswith("flatbonds.") for node in nodes), path.name)
            needs["flatbonds." + path.stem] = {node.module for node in nodes}
        while needs:
            ready = [name for name in needs if not needs[name] & set(needs)]
            self.assertNotEqual(ready, [], needs)
            needs = {name: needs[name] for name in needs if name not in ready}

    def test_names_are_imported_from_where_they_are_defined(self):
        trees = {"flatbonds." + path.stem: ast.parse(path.read_text()) for path in FILES}
        for tree in trees.values():
            for node in imports_of(tree):
                defined = set()
                for each in trees[node.module].body:
                    if isinstance(each, (ast.FunctionDef, ast.ClassDef)):
                        defined.add(each.name)
                    elif isinstance(each, ast.Assign):
                        defined.add(each.targets[0].id)
                self.assertTrue({alias.name for alias in node.names} <= defined)

    def test_no_loop_changes_what_it_walks(self):
        for path in FILES:
            for function in functions_of(path.read_text()):
                self.assertEqual(loops_that_change(function), [], (path.name, function.name))

    def test_loops_that_change_what_they_walk_are_found(self):
        head = "def told(left, on):\n    while left:\n        more = []\n"
        rows = {
            "for each in left:\n            more.append(each)\n        left = more": [5],
            "for each in list(left):\n            more.append(each)\n        left = more": [],
            "for each in left:\n            more.append(each)\n        left = list(more)": [],
            "for at, each in enumerate(left):\n            more[at] = each\n        left, on = more, on": [5],
            "for at, each in left.items():\n            del more[at]\n        left = more if on else on": [5],
            "for each in left.rows:\n            left.rows += [each]": [5],
            "for each in left.rows:\n            left.others.append(each)": [],
            "for each in on or more:\n            more.extend([each])": [5],
            "more = [left.pop() for each in left]": [4],
        }
        for body in rows:
            self.assertEqual(loops_that_change(functions_of(f"{head}        {body}\n")[0]), rows[body], body)

    def test_what_boards_rule_out_elsewhere(self):
        """As boards compare, are measured, iterated over and read by properties, some words mean too much elsewhere."""
        told = {"web", "laying", "version"}
        for path in FILES:
            for node in ast.walk(ast.parse(path.read_text())):
                self.assertNotIsInstance(node, (ast.GeneratorExp, ast.Yield, ast.YieldFrom), path.name)
                if isinstance(node, ast.Attribute):
                    self.assertFalse(node.attr in told and isinstance(node.ctx, ast.Store), (path.name, node.lineno))
                    self.assertFalse(node.attr in ("keys", "sort"), (path.name, node.lineno))
                if isinstance(node, ast.ImportFrom):
                    self.assertNotIn(node.module, ("itertools", "heapq"))
                if isinstance(node, ast.ExceptHandler):
                    self.assertIn(node.type.id, vars(errors), (path.name, node.lineno))
                    self.assertIsNone(node.name, (path.name, node.lineno))


if __name__ == "__main__":
    unittest.main()
