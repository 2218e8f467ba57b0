"""The form of the package's files, as far as it can be seen file by file."""

import ast
import builtins
import pathlib
import re
import unittest

import allmeet

FOLDER = pathlib.Path(allmeet.__file__).parent

STATEMENTS = (
    ast.FunctionDef, ast.ClassDef, ast.ImportFrom, ast.Assign, ast.AugAssign, ast.If, ast.While, ast.For, ast.Return,
    ast.Break, ast.Continue, ast.Pass, ast.Raise, ast.Try, ast.Expr,
)
EXPRESSIONS = (
    ast.Constant, ast.List, ast.Tuple, ast.Dict, ast.BinOp, ast.UnaryOp, ast.BoolOp, ast.Compare, ast.IfExp, ast.Call,
    ast.Attribute, ast.Subscript, ast.Slice, ast.Name, ast.ListComp, ast.JoinedStr, ast.FormattedValue, ast.Lambda,
)
OWN_NAMES = """len range enumerate zip min max sum abs sorted reversed int str bool list tuple dict set frozenset
    isinstance ord repr any all divmod Exception ValueError TypeError KeyError IndexError LookupError ZeroDivisionError
    ArithmeticError OverflowError RuntimeError NotImplementedError AttributeError StopIteration""".split()
METHODS = """append clear copy count endswith extend find get index insert isalnum isalpha isdigit islower isspace
    isupper items join keys ljust lower lstrip partition pop remove replace reverse rfind rjust rpartition rsplit rstrip
    setdefault split splitlines startswith strip update upper values zfill bit_length""".split()
UNUSED_WORDS = """type typing typing_extensions enum Enum IntEnum StrEnum Flag IntFlag Generic Protocol ABC ABCMeta
    namedtuple NamedTuple TypedDict TYPE_CHECKING abstractmethod""".split()


def files():
    return sorted(path for path in FOLDER.rglob("*") if path.is_file() and "__pycache__" not in path.parts)


def trees():
    return [(path.name, ast.parse(path.read_text(encoding="utf-8"))) for path in files()]


def bound_names(tree):
    """Every name that a file binds, with its line."""
    for node in ast.walk(tree):
        if isinstance(node, (ast.FunctionDef, ast.ClassDef)):
            yield node.name, node.lineno
        elif isinstance(node, ast.Name) and isinstance(node.ctx, ast.Store):
            yield node.id, node.lineno
        elif isinstance(node, ast.arg):
            yield node.arg, node.lineno


def methods_of(tree):
    return [part for node in tree.body if isinstance(node, ast.ClassDef)
            for part in node.body if isinstance(part, ast.FunctionDef)]


def top_names(tree):
    found = []
    for node in tree.body:
        if isinstance(node, (ast.FunctionDef, ast.ClassDef)):
            found.append(node.name)
        elif isinstance(node, ast.Assign):
            found.append(node.targets[0].id)
    return found


class Form(unittest.TestCase):
    def test_files_and_signs(self):
        self.assertIn(FOLDER / "__init__.py", files())
        for path in files():
            self.assertRegex(path.name, r"\A[a-z0-9_]+\.py\Z")
            text = path.read_text(encoding="utf-8")
            self.assertRegex(text, r"\A[ -~\n]*\Z", path.name)
            self.assertLessEqual(len(text.splitlines()), 400, path.name)
            self.assertLessEqual(max(map(len, text.splitlines())), 120, path.name)
            for word in re.findall(r"\w+", text):
                self.assertNotIn(word, UNUSED_WORDS, path.name)

    def test_statements_and_expressions(self):
        for name, tree in trees():
            for node in ast.walk(tree):
                where = f"{name}:{getattr(node, 'lineno', 0)} {ast.dump(node)[:60]}"
                if isinstance(node, ast.stmt):
                    self.assertIsInstance(node, STATEMENTS, where)
                if isinstance(node, ast.expr):
                    self.assertIsInstance(node, EXPRESSIONS, where)
                if isinstance(node, ast.Expr) and node is not tree.body[0]:
                    self.assertIsInstance(node.value, ast.Call, where)
                if isinstance(node, ast.Assign):
                    self.assertEqual(len(node.targets), 1, where)
                if isinstance(node, (ast.For, ast.While)):
                    self.assertEqual(node.orelse, [], where)
                if isinstance(node, ast.ListComp):
                    self.assertEqual(len(node.generators), 1, where)
                    self.assertLessEqual(len(node.generators[0].ifs), 1, where)
                if isinstance(node, ast.BinOp):
                    self.assertNotIsInstance(node.op, ast.Div, where)
                if isinstance(node, ast.Constant):
                    self.assertIsInstance(node.value, (int, str, type(None)), where)

    def test_functions(self):
        for name, tree in trees():
            for node in ast.walk(tree):
                if isinstance(node, ast.FunctionDef):
                    self.assertLessEqual(node.end_lineno - node.lineno + 1, 40, node.name)
                    self.assertEqual(node.decorator_list, [], node.name)
                    self.assertIsNone(node.args.vararg, node.name)
                    self.assertIsNone(node.args.kwarg, node.name)
                    self.assertEqual(node.args.kwonlyargs, [], node.name)

    def test_names(self):
        for name, tree in trees():
            for bound, line in bound_names(tree):
                where = f"{name}:{line} {bound}"
                self.assertNotIn(bound, dir(builtins), where)
                if bound not in ("__init__", "__eq__", "__repr__", "__str__", "__len__"):
                    self.assertRegex(bound, r"\A[A-Za-z][A-Za-z0-9_]*\Z", where)
            self.assertEqual(len(set(top_names(tree))), len(top_names(tree)), name)
            for node in ast.walk(tree):
                if isinstance(node, ast.Name) and node.id in dir(builtins):
                    self.assertIn(node.id, OWN_NAMES, f"{name}:{node.lineno}")

    def test_no_local_is_called_like_an_import(self):
        for name, tree in trees():
            drawn = [part.name for node in tree.body if isinstance(node, ast.ImportFrom) for part in node.names]
            methods = [(method.name, method.lineno) for method in methods_of(tree)]
            for bound, line in bound_names(tree):
                if (bound, line) not in methods:
                    self.assertNotIn(bound, drawn, f"{name}:{line}")

    def test_no_name_is_a_method_and_a_value(self):
        methods = [method.name for name, tree in trees() for method in methods_of(tree)]
        for name, tree in trees():
            for node in ast.walk(tree):
                if isinstance(node, ast.Attribute) and isinstance(node.ctx, ast.Store):
                    self.assertNotIn(node.attr, methods + METHODS, f"{name}:{node.lineno}")
                    for kind in (str, int, list, dict, set, bytes):
                        self.assertFalse(hasattr(kind, node.attr), f"{name}:{node.lineno}")

    def test_sets_are_not_kept(self):
        for name, tree in trees():
            parents = {child: node for node in ast.walk(tree) for child in ast.iter_child_nodes(node)}
            for node in ast.walk(tree):
                if isinstance(node, ast.Call) and ast.unparse(node.func) in ("set", "frozenset"):
                    around = parents[node]
                    while isinstance(around, ast.BinOp):
                        around = parents[around]
                    if isinstance(around, ast.Call):
                        self.assertIn(around.func.id, ("sorted", "len"), f"{name}:{node.lineno}")
                        self.assertEqual(around.keywords, [], f"{name}:{node.lineno}")
                    else:
                        self.assertIsInstance(around, ast.Compare, f"{name}:{node.lineno}")

    def test_is_stands_beside_none_and_truths(self):
        for name, tree in trees():
            for node in ast.walk(tree):
                if isinstance(node, ast.Compare) and isinstance(node.ops[0], (ast.Is, ast.IsNot)):
                    self.assertIsInstance(node.comparators[0], ast.Constant, f"{name}:{node.lineno}")
                    self.assertIn(repr(node.comparators[0].value), ("None", "True", "False"), f"{name}:{node.lineno}")

    def test_methods(self):
        own = [method.name for name, tree in trees() for method in methods_of(tree)]
        for name, tree in trees():
            for node in ast.walk(tree):
                if isinstance(node, ast.Call) and isinstance(node.func, ast.Attribute):
                    self.assertIn(node.func.attr, METHODS + own, f"{name}:{node.lineno}")

    def test_imports(self):
        defined = {f"allmeet.{name[:-3]}": top_names(tree) for name, tree in trees()}
        drawn = {module: [] for module in defined}
        for name, tree in trees():
            for node in ast.walk(tree):
                if isinstance(node, ast.ImportFrom):
                    self.assertIn(node, tree.body, name)
                    self.assertEqual(node.level, 0, name)
                    for imported in node.names:
                        self.assertIn(imported.name, defined[node.module], name)
                    drawn[f"allmeet.{name[:-3]}"].append(node.module)
        settled = []
        while len(settled) < len(drawn):
            free = [m for m in drawn if m not in settled and all(d in settled for d in drawn[m])]
            self.assertNotEqual(free, [], "files draw from one another")
            settled.extend(free)


if __name__ == "__main__":
    unittest.main()
