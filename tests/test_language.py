"""The rules of the language that a plain look at the code can hold, and a narrower choice of its forms."""

import ast
import builtins
import pathlib
import unittest

import healwires

FOLDER = pathlib.Path(healwires.__file__).parent
FORMS = (
    "Module Expr Constant ImportFrom alias FunctionDef arguments arg ClassDef Assign AugAssign Name Load Store "
    "Attribute Subscript Slice Tuple List Dict Call keyword Return Raise If For While Break Continue Pass IfExp BoolOp "
    "And Or UnaryOp Not USub BinOp Add Sub Mult FloorDiv Mod Compare Eq NotEq Lt LtE Gt GtE Is IsNot In NotIn "
    "ListComp comprehension JoinedStr FormattedValue Lambda LShift"
).split()
CALLED = (
    "len range enumerate zip min max sum abs sorted reversed int str bool list tuple dict isinstance any all"
).split()
METHODS = "append extend index count get split partition join bit_length items pop".split()
DOUBLE = ("__init__", "__eq__")
LIBRARY = {"heapq", "math", "itertools", "collections"}
BARRED = (
    "register mro elements open input law version_info with_traceback add_note attrgetter breakpoint builtins compile "
    "copyright credits delattr dir eval exec exit gc globals help id importlib license locals methodcaller os quit "
    "setattr super type vars sys"
).split()


def files():
    return sorted(FOLDER.glob("*.py"))


def trees():
    return [(path, ast.parse(path.read_text())) for path in files()]


def assigned(tree):
    """The names that some code gives to variables, parameters, functions and classes."""
    found = []
    for node in ast.walk(tree):
        if isinstance(node, ast.Name) and isinstance(node.ctx, ast.Store):
            found.append(node.id)
        elif isinstance(node, ast.arg):
            found.append(node.arg)
        elif isinstance(node, (ast.FunctionDef, ast.ClassDef)):
            found.append(node.name)
    return found


class Language(unittest.TestCase):
    """L1 to L28, as far as it goes."""

    def test_files(self):
        self.assertIn("__init__.py", [path.name for path in files()])
        for path in FOLDER.iterdir():
            if path.name != "__pycache__":
                self.assertEqual(path.suffix, ".py", path)
                self.assertRegex(path.stem, "^[a-z_]+$")
        for path in files():
            text = path.read_text()
            self.assertTrue(all(sign == "\n" or " " <= sign <= "~" for sign in text), path)
            self.assertLessEqual(len(text.splitlines()), 399, path)
            self.assertLessEqual(max(len(line) for line in text.splitlines()), 120, path)

    def test_forms(self):
        for path, tree in trees():
            for node in ast.walk(tree):
                self.assertIn(type(node).__name__, FORMS, (path.name, getattr(node, "lineno", None)))
                if isinstance(node, (ast.FunctionDef, ast.ClassDef)):
                    self.assertEqual(node.decorator_list, [], path)
                if isinstance(node, ast.FunctionDef):
                    self.assertLessEqual(node.end_lineno - node.lineno + 1, 40, (path.name, node.name))
                    self.assertTrue(ast.get_docstring(node) or node.name in DOUBLE, (path.name, node.name))
                if isinstance(node, ast.Constant):
                    self.assertNotIsInstance(node.value, float)
                    self.assertNotIn("\x25", str(node.value))

    def test_module_level(self):
        for path, tree in trees():
            bound = []
            for place, node in enumerate(tree.body):
                if isinstance(node, ast.Expr):
                    self.assertTrue(place == 0 and isinstance(node.value.value, str), path)
                elif isinstance(node, ast.ImportFrom):
                    bound += [one.name for one in node.names]
                elif isinstance(node, ast.Assign):
                    self.assertEqual([type(target) for target in node.targets], [ast.Name], path)
                    bound.append(node.targets[0].id)
                else:
                    self.assertIsInstance(node, (ast.FunctionDef, ast.ClassDef), path)
                    bound.append(node.name)
            self.assertEqual(len(bound), len(set(bound)), path)

    def test_imports(self):
        defined = {path.stem: assigned(ast.Module(tree.body, [])) for path, tree in trees()}
        leads = {}
        for path, tree in trees():
            leads[path.stem] = []
            for node in ast.walk(tree):
                if isinstance(node, ast.ImportFrom) and node.module not in LIBRARY:
                    package, name = node.module.split(".")
                    self.assertEqual((package, node.level), ("healwires", 0))
                    self.assertNotEqual(path.stem, "__init__")
                    leads[path.stem].append(name)
                    for one in node.names:
                        self.assertIn(one.name, defined[name], path)
                        self.assertIsNone(one.asname)
                        used = [part for part in ast.walk(tree) if isinstance(part, ast.Name) and part.id == one.name]
                        self.assertTrue(used, (path.name, one.name))
        while leads:
            free = [name for name in leads if not any(other in leads for other in leads[name])]
            self.assertTrue(free, "files import from each other")
            for name in free:
                del leads[name]

    def test_names(self):
        for path, tree in trees():
            imported = [one.name for node in tree.body if isinstance(node, ast.ImportFrom) for one in node.names]
            classes = [node.name for node in tree.body if isinstance(node, ast.ClassDef)]
            for name in assigned(tree):
                if name in DOUBLE:
                    continue
                self.assertFalse(hasattr(builtins, name), (path.name, name))
                self.assertNotIn(name, BARRED + imported, path.name)
                self.assertFalse(name.startswith("__"), (path.name, name))
            inner = [name for node in tree.body if isinstance(node, ast.FunctionDef) for name in assigned(node)[1:]]
            self.assertFalse(set(inner) & set(classes), path.name)

    def test_calls(self):
        classes = [node for _, tree in trees() for node in tree.body if isinstance(node, ast.ClassDef)]
        own = [node.name for one in classes for node in one.body if isinstance(node, ast.FunctionDef)]
        for path, tree in trees():
            known = assigned(ast.Module(tree.body, []))
            known += [one.name for node in tree.body if isinstance(node, ast.ImportFrom) for one in node.names]
            for node in ast.walk(tree):
                if isinstance(node, ast.Call) and isinstance(node.func, ast.Name):
                    self.assertIn(node.func.id, known + CALLED, path.name)
                elif isinstance(node, ast.Call):
                    self.assertIsInstance(node.func, ast.Attribute)
                    self.assertIn(node.func.attr, METHODS + own, path.name)

    def test_words(self):
        for path, tree in trees():
            for node in ast.walk(tree):
                if isinstance(node, ast.Name) and isinstance(node.ctx, ast.Load):
                    self.assertNotIn(node.id, ("type", "set", "frozenset", "map", "iter", "next", "chr"), path.name)


if __name__ == "__main__":
    unittest.main()
