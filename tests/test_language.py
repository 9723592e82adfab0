"""The package keeps to a small part of Python: a check of the rules that can be seen from outside.

It allows less than the rules do: what the package does not need so far is refused here as well.
"""

import ast
import builtins
import pathlib
import unittest
import warnings

PACKAGE = pathlib.Path(__file__).resolve().parent.parent / "unwaited"
ORDER = ["errors", "fractions", "forms", "expressions", "looptexts", "meanings", "arcs", "sums", "paths", "runs",
         "beats", "turns", "losing", "keepings", "judged", "matchings", "crowds", "rings", "stairs", "shares", "machine",
         "windows", "cuts", "covers", "saved", "hall", "logs", "drawings", "kept", "desk"]
FROM_PYTHON = {"math": {"gcd", "lcm"}, "itertools": {"combinations"}, "heapq": {"heappop", "heappush"}}
OF_PYTHON = {name for name in dir(builtins) if name != "_"}
STATEMENTS = (ast.Assign, ast.AugAssign, ast.If, ast.While, ast.For, ast.Return, ast.Break, ast.Continue, ast.Raise,
              ast.Try, ast.Expr, ast.FunctionDef, ast.ClassDef, ast.ImportFrom, ast.Delete)
EXPRESSIONS = (ast.BoolOp, ast.BinOp, ast.UnaryOp, ast.IfExp, ast.Dict, ast.ListComp, ast.DictComp, ast.Compare,
               ast.Call, ast.JoinedStr, ast.FormattedValue, ast.Constant, ast.Attribute, ast.Subscript, ast.Starred,
               ast.Name, ast.List, ast.Tuple, ast.Slice)
BUILTINS = {"len", "range", "enumerate", "zip", "min", "max", "sum", "abs", "sorted", "reversed", "int", "str", "bool",
            "list", "tuple", "dict", "set", "isinstance", "any", "all", "divmod", "ValueError"}
METHODS = {"append", "clear", "copy", "count", "endswith", "extend", "find", "get", "index", "insert", "isdigit",
           "isascii", "isupper", "items", "join", "keys", "lower", "lstrip", "partition", "pop", "remove", "replace", "rfind",
           "rstrip", "setdefault", "split", "startswith", "strip", "update", "upper", "values", "bit_length"}
BARRED = {"register", "mro", "elements", "open", "input", "law", "version_info", "with_traceback", "add_note", "type",
          "typing", "enum", "Enum", "Flag", "Generic", "Protocol", "ABC", "namedtuple", "dataclass", "attrgetter",
          "breakpoint", "builtins", "compile", "copyright", "credits", "delattr", "dir", "eval", "exec", "exit", "gc",
          "getattr", "globals", "hasattr", "help", "id", "importlib", "license", "locals", "os", "quit", "setattr",
          "super", "vars", "sys"}


def trees():
    """The couples of a file of the package and what Python makes of it."""
    for path in sorted(PACKAGE.glob("*.py")):
        yield path, ast.parse(path.read_text())


def bound_names(node):
    """All names that a function, a class or an assignment anywhere in a node binds."""
    for part in ast.walk(node):
        if isinstance(part, (ast.FunctionDef, ast.ClassDef)):
            yield part.name
        elif isinstance(part, ast.arg):
            yield part.arg
        elif isinstance(part, ast.Name) and not isinstance(part.ctx, ast.Load):
            yield part.id
        elif isinstance(part, ast.ExceptHandler) and part.name:
            yield part.name


class Language(unittest.TestCase):
    def test_files(self):
        for path in PACKAGE.iterdir():
            if path.name != "__pycache__":
                self.assertEqual(path.suffix, ".py")
                self.assertIn(path.stem, ["__init__", *ORDER])

    def test_lines(self):
        for path in PACKAGE.glob("*.py"):
            text = path.read_text()
            self.assertTrue(all(sign == "\n" or " " <= sign <= "~" for sign in text), path.name)
            self.assertLess(len(text.split("\n")), 400, path.name)
            self.assertLessEqual(max(len(line) for line in text.split("\n")), 120, path.name)
            with warnings.catch_warnings():
                warnings.simplefilter("error")
                compile(text, path.name, "exec")

    def test_imports(self):
        for path, tree in trees():
            for node in ast.walk(tree):
                if isinstance(node, ast.ImportFrom) and node.module in FROM_PYTHON:
                    self.assertLessEqual({one.name for one in node.names}, FROM_PYTHON[node.module])
                elif isinstance(node, ast.ImportFrom):
                    self.assertEqual((node.module.split(".")[0], node.level), ("unwaited", 0))
                    other = node.module.split(".")[1]
                    self.assertLess(ORDER.index(other), ORDER.index(path.stem), path.name)
                    defined = bound_names(ast.parse((PACKAGE / (other + ".py")).read_text()))
                    self.assertLessEqual({one.name for one in node.names}, set(defined))

    def test_kinds_of_rows(self):
        for path, tree in trees():
            for node in ast.walk(tree):
                if isinstance(node, ast.stmt):
                    self.assertIsInstance(node, STATEMENTS, (path.name, node.lineno))
                elif isinstance(node, ast.expr):
                    self.assertIsInstance(node, EXPRESSIONS, (path.name, node.lineno))
                self.assertFalse(getattr(node, "decorator_list", []), path.name)
                self.assertNotIsInstance(node, (ast.Div, ast.Pow, ast.MatMult))
                if isinstance(node, ast.Constant):
                    self.assertNotIsInstance(node.value, (float, complex, bytes))
                if isinstance(node, ast.ExceptHandler):
                    for one in getattr(node.type, "elts", [node.type]):
                        self.assertNotIn(one.id, OF_PYTHON, path.name)
                if isinstance(node, ast.Delete):
                    self.assertTrue(all(isinstance(one, ast.Subscript) for one in node.targets), path.name)

    def test_functions(self):
        for path, tree in trees():
            for node in ast.walk(tree):
                if isinstance(node, (ast.FunctionDef, ast.ClassDef)):
                    self.assertTrue(ast.get_docstring(node) or node.name == "__init__", (path.name, node.name))
                if isinstance(node, ast.FunctionDef):
                    self.assertLessEqual(node.end_lineno - node.lineno + 1, 40, (path.name, node.name))
                    self.assertFalse(node.args.defaults or node.args.vararg or node.args.kwarg, node.name)
                    self.assertFalse([one for one in ast.walk(node) if isinstance(one, ast.FunctionDef)][1:], node.name)

    def test_names(self):
        for path, tree in trees():
            imported = {one.name for node in tree.body if isinstance(node, ast.ImportFrom) for one in node.names}
            for name in bound_names(tree):
                self.assertNotIn(name, OF_PYTHON, path.name)
                self.assertNotIn(name, BARRED | imported, path.name)
            for node in ast.walk(tree):
                if isinstance(node, ast.Attribute):
                    self.assertNotIn(node.attr, BARRED, path.name)
                if isinstance(node, ast.Name) and node.id in OF_PYTHON:
                    self.assertIn(node.id, BUILTINS, (path.name, node.lineno))
                if isinstance(node, ast.Name) and isinstance(node.ctx, ast.Load):
                    self.assertNotEqual(node.id, "_", (path.name, node.lineno))

    def test_methods(self):
        own = {node.name for _, tree in trees() for node in ast.walk(tree) if isinstance(node, ast.FunctionDef)}
        for path, tree in trees():
            for node in ast.walk(tree):
                if isinstance(node, ast.Call) and isinstance(node.func, ast.Attribute):
                    self.assertIn(node.func.attr, METHODS | own, (path.name, node.lineno))
                if isinstance(node, ast.Call) and node.keywords:
                    self.assertEqual([one.arg for one in node.keywords], ["default"], (path.name, node.lineno))

    def test_iterated_at_once(self):
        # range(..), zip(..), d.items() and the like are not passed on or kept, nor are combinations(..).
        views = {"range", "zip", "enumerate", "reversed", "items", "keys", "values", "combinations"}
        takers = {"list", "tuple", "dict", "sorted", "sum", "any", "all", "enumerate", "zip", "min", "max", "reversed"}
        for path, tree in trees():
            right = set()
            for node in ast.walk(tree):
                if isinstance(node, (ast.For, ast.comprehension)):
                    right.add(id(node.iter))
                elif isinstance(node, ast.Call) and isinstance(node.func, ast.Name) and node.func.id in takers:
                    right.update(id(one) for one in node.args)
            for node in ast.walk(tree):
                name = getattr(node.func, "id", getattr(node.func, "attr", None)) if isinstance(node, ast.Call) else None
                self.assertTrue(name not in views or id(node) in right, (path.name, getattr(node, "lineno", 0)))

    def test_module_level(self):
        for path, tree in trees():
            for node in tree.body:
                right = isinstance(node, (ast.ImportFrom, ast.FunctionDef, ast.ClassDef)) or \
                    isinstance(node, ast.Assign) and len(node.targets) == 1 and self.is_plain(tree, node) \
                    or isinstance(node, ast.Expr) and isinstance(node.value, ast.Constant)
                self.assertTrue(right, (path.name, node.lineno))

    def is_plain(self, tree, node):
        """Whether a plain value is assigned, or a table of functions that are defined above."""
        if isinstance(node.value, ast.Dict) and isinstance(node.value.values[0], ast.Name):
            above = {one.name for one in tree.body if isinstance(one, ast.FunctionDef) and one.lineno < node.lineno}
            return {one.id for one in node.value.values} <= above
        return ast.literal_eval(node.value) is not None

    def test_attributes_are_no_methods(self):
        methods = {part.name for _, tree in trees() for node in ast.walk(tree) if isinstance(node, ast.ClassDef)
                   for part in node.body if isinstance(part, ast.FunctionDef)}
        for path, tree in trees():
            for node in ast.walk(tree):
                if isinstance(node, ast.Attribute) and isinstance(node.ctx, ast.Store):
                    self.assertNotIn(node.attr, methods | METHODS, path.name)

    def test_own_classes_are_called_alone(self):
        # Not passed on, nor kept: called, a base class, asked for by isinstance, raised or caught.
        for path, tree in trees():
            classes = {node.name for _, other in trees() for node in other.body if isinstance(node, ast.ClassDef)}
            right = set()
            for node in ast.walk(tree):
                if isinstance(node, ast.Call):
                    right.add(id(node.func))
                    right.update(id(one) for one in node.args[1:] if getattr(node.func, "id", "") == "isinstance")
                elif isinstance(node, ast.ClassDef):
                    right.update(id(one) for one in node.bases)
                elif isinstance(node, ast.ExceptHandler):
                    right.update(id(one) for one in getattr(node.type, "elts", [node.type]))
                elif isinstance(node, ast.Attribute) and node.attr == "__init__":
                    right.add(id(node.value))
            for node in ast.walk(tree):
                if isinstance(node, ast.Name) and node.id in classes:
                    self.assertTrue(id(node) in right, (path.name, node.lineno))

    def test_strings(self):
        for path, tree in trees():
            told = {id(node.body[0].value) for node in ast.walk(tree)
                    if isinstance(node, (ast.Module, ast.FunctionDef, ast.ClassDef)) and ast.get_docstring(node)}
            for node in ast.walk(tree):
                if isinstance(node, ast.Constant) and isinstance(node.value, str) and id(node) not in told:
                    self.assertNotIn(chr(37), node.value, path.name)
                    self.assertFalse(set(node.value.split()) & {"type", "typing", "enum", "ABC"}, path.name)


if __name__ == "__main__":
    unittest.main()
