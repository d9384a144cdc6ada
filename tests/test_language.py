"""The rules of the language that can be seen in the package's files, by their numbers."""

import ast
import builtins
import pathlib
import re
import unittest

PACKAGE = pathlib.Path(__file__).resolve().parent.parent / "cometorest"

STATEMENTS = (
    ast.Assign, ast.AugAssign, ast.AnnAssign, ast.If, ast.While, ast.For, ast.Return, ast.Break, ast.Continue,
    ast.Pass, ast.Raise, ast.Try, ast.Expr, ast.FunctionDef, ast.ClassDef, ast.ImportFrom,
)
EXPRESSIONS = (
    ast.Constant, ast.List, ast.Tuple, ast.Dict, ast.BinOp, ast.UnaryOp, ast.BoolOp, ast.Compare, ast.IfExp,
    ast.Call, ast.Attribute, ast.Subscript, ast.Slice, ast.ListComp, ast.JoinedStr, ast.FormattedValue, ast.Name,
    ast.Lambda, ast.Set,
)
PYTHONS_OWN = """len range enumerate zip min max sum abs sorted reversed int str bool list tuple dict set frozenset
    isinstance ord repr any all divmod Exception ValueError TypeError KeyError IndexError LookupError
    ZeroDivisionError ArithmeticError OverflowError RuntimeError NotImplementedError AttributeError
    StopIteration""".split()
METHODS = """append clear copy count endswith extend find get index insert isalnum isalpha isdigit islower isspace
    isupper items join keys ljust lower lstrip partition pop remove replace reverse rfind rjust rpartition rsplit
    rstrip setdefault split splitlines startswith strip update upper values zfill bit_length __init__""".split()
TWICE_UNDERSCORED = ["__init__", "__eq__", "__repr__", "__str__", "__len__"]
WORDS = re.compile(
    r"\b(type|typing|typing_extensions|enum|Enum|IntEnum|StrEnum|Flag|IntFlag|Generic|Protocol|ABC|ABCMeta"
    r"|namedtuple|NamedTuple|TypedDict|TYPE_CHECKING|abstractmethod)\b|dataclass|overload|contextmanager"
)
WALKED = "zip enumerate reversed range".split()
WALKED_METHODS = "items keys values".split()
WALKERS = "list tuple dict sorted sum any all enumerate zip min max".split()
UNUSED = "register mro elements open input version_info with_traceback add_note".split()


def files():
    return sorted(PACKAGE.glob("*.py"))


def tree_of(path):
    return ast.parse(path.read_text(encoding="utf-8"))


def nodes(kind):
    return [(path.name, node) for path in files() for node in ast.walk(tree_of(path)) if isinstance(node, kind)]


def with_parents(path):
    tree = tree_of(path)
    parents = {child: node for node in ast.walk(tree) for child in ast.iter_child_nodes(node)}
    return [(node, parents.get(node)) for node in ast.walk(tree)], parents


def called(node):
    """The name of Python's own, or of the program's, that a call calls."""
    return node.func.id if isinstance(node, ast.Call) and isinstance(node.func, ast.Name) else None


def is_docstring(body, node):
    return body[:1] == [node] and isinstance(node, ast.Expr) and isinstance(node.value, ast.Constant)


def own_methods():
    return [node.name for _, owner in nodes(ast.ClassDef) for node in owner.body if isinstance(node, ast.FunctionDef)]


class Language(unittest.TestCase):
    def test_files(self):
        for path in PACKAGE.iterdir():
            if path.name != "__pycache__":
                self.assertRegex(path.name, r"\A[a-z0-9_]+\.py\Z", "L1, L14")
        self.assertIn("__init__.py", [path.name for path in files()], "L14")

    def test_signs_and_sizes(self):
        for path in files():
            text = path.read_bytes().decode("utf-8")
            self.assertRegex(text, r"\A[ -~\n]*\Z", (path.name, "L14"))
            self.assertIsNone(WORDS.search(text), (path.name, "L17"))
            rows = text.split("\n")
            self.assertLessEqual(len(rows), 401, (path.name, "L10"))
            self.assertLessEqual(max(len(row) for row in rows), 120, (path.name, "L10"))
        for name, node in nodes(ast.FunctionDef):
            self.assertLessEqual(node.end_lineno - node.lineno + 1, 40, (name, node.name, "L10"))

    def test_statements_and_expressions(self):
        for path in files():
            for node in ast.walk(tree_of(path)):
                where = (path.name, getattr(node, "lineno", 0), node.__class__.__name__)
                if isinstance(node, ast.stmt):
                    self.assertIsInstance(node, STATEMENTS, (where, "L6"))
                if isinstance(node, ast.expr):
                    self.assertIsInstance(node, EXPRESSIONS, (where, "L7"))
                if isinstance(node, ast.Constant):
                    self.assertNotIsInstance(node.value, (float, complex, bytes), (where, "L7"))
                self.assertNotIsInstance(node, ast.Div, (where, "L7"))
                if isinstance(node, (ast.For, ast.While, ast.Try)):
                    self.assertFalse(getattr(node, "finalbody", []), (where, "L6"))
                    self.assertFalse(not isinstance(node, ast.Try) and node.orelse, (where, "L6"))
                if isinstance(node, ast.Assign):
                    self.assertEqual(len(node.targets), 1, (where, "L6"))
                if isinstance(node, ast.FormattedValue):
                    self.assertIsInstance(node.value, ast.Name, (where, "L7"))
                    self.assertIsNone(node.format_spec, (where, "L7"))
                if isinstance(node, ast.ListComp):
                    self.assertEqual(len(node.generators), 1, (where, "L7"))
                    self.assertLessEqual(len(node.generators[0].ifs), 1, (where, "L7"))

    def test_calls_alone_stand_by_themselves(self):
        for path in files():
            tree = tree_of(path)
            for node in ast.walk(tree):
                if isinstance(node, ast.Expr) and not is_docstring(tree.body, node):
                    self.assertIsInstance(node.value, ast.Call, (path.name, node.lineno, "L6"))

    def test_the_top_of_a_file(self):
        for path in files():
            body = tree_of(path).body
            for node in body:
                if not is_docstring(body, node):
                    right = (ast.ImportFrom, ast.FunctionDef, ast.ClassDef, ast.Assign)
                    self.assertIsInstance(node, right, (path.name, node.lineno, "L3"))

    def test_imports(self):
        drawn = {}
        for path in files():
            drawn[path.stem] = []
            tree = tree_of(path)
            for node in ast.walk(tree):
                if not isinstance(node, ast.ImportFrom):
                    continue
                where = (path.name, node.lineno)
                self.assertIn(node, tree.body, (where, "L2"))
                self.assertRegex(node.module, r"\Acometorest\.[a-z_]+\Z", (where, "L2"))
                self.assertEqual(node.level, 0, (where, "L2"))
                source = PACKAGE / (node.module.split(".")[1] + ".py")
                made = [getattr(row, "name", None) or row.targets[0].id for row in tree_of(source).body
                        if isinstance(row, (ast.FunctionDef, ast.ClassDef, ast.Assign))]
                for alias in node.names:
                    self.assertIn(alias.name, made, (where, "L16"))
                drawn[path.stem].append(source.stem)
        while drawn:
            free = [name for name in drawn if not any(other in drawn for other in drawn[name])]
            self.assertTrue(free, ("a ring of imports", sorted(drawn), "L16"))
            for name in free:
                drawn.pop(name)

    def test_functions_and_classes(self):
        for name, node in nodes((ast.FunctionDef, ast.Lambda)):
            where = (name, node.lineno, "L4")
            self.assertFalse(getattr(node, "decorator_list", []), where)
            taken = node.args
            self.assertFalse(taken.vararg or taken.kwarg or taken.kwonlyargs or taken.posonlyargs, where)
        for name, node in nodes(ast.ClassDef):
            where = (name, node.lineno, "L5")
            self.assertLessEqual(len(node.bases), 1, where)
            self.assertFalse(node.decorator_list or node.keywords, where)
            for row in node.body:
                self.assertIsInstance(row, (ast.FunctionDef, ast.Pass), where)

    def test_names(self):
        bound = [(name, node.id, node.lineno) for name, node in nodes(ast.Name) if isinstance(node.ctx, ast.Store)]
        bound += [(name, node.arg, node.lineno) for name, node in nodes(ast.arg)]
        bound += [(name, node.name, node.lineno) for name, node in nodes((ast.FunctionDef, ast.ClassDef))]
        for name, word, line in bound:
            if word not in TWICE_UNDERSCORED:
                self.assertRegex(word, r"\A[A-Za-z][A-Za-z0-9_]*\Z", (name, line, "L12"))
        methods = own_methods()
        for name, word, line in bound:
            if word not in methods:
                self.assertFalse(hasattr(builtins, word), (name, line, word, "L8, L15"))
            self.assertNotIn(word, UNUSED, (name, line, "L17"))
        for name, node in nodes(ast.Name):
            if hasattr(builtins, node.id):
                self.assertIn(node.id, PYTHONS_OWN, (name, node.lineno, "L8"))

    def test_methods_and_values(self):
        methods = own_methods()
        for name, node in nodes(ast.Call):
            if isinstance(node.func, ast.Attribute):
                self.assertIn(node.func.attr, METHODS + methods, (name, node.lineno, "L25"))
        for name, node in nodes(ast.Attribute):
            self.assertNotIn(node.attr, UNUSED + ["format", "format_map"], (name, node.lineno, "L8, L17"))
            if isinstance(node.ctx, ast.Store):
                self.assertNotIn(node.attr, methods, (name, node.lineno, "L18"))
                self.assertRegex(node.attr, r"\A[A-Za-z]", (name, node.lineno, "L12"))

    def test_is_and_errors(self):
        for name, node in nodes(ast.Compare):
            for sign, right in zip(node.ops, node.comparators):
                if isinstance(sign, (ast.Is, ast.IsNot)):
                    plain = isinstance(right, ast.Constant) and right.value in (None, True, False)
                    self.assertTrue(plain, (name, node.lineno, "L20"))
        for name, node in nodes(ast.ExceptHandler):
            self.assertIsNotNone(node.type, (name, node.lineno, "L6"))
            for word in ast.walk(node.type):
                if isinstance(word, ast.Name):
                    self.assertNotIn(word.id, ["Exception", "TypeError"], (name, node.lineno, "L19"))

    def test_locals_are_not_called_like_classes_and_imports(self):
        for path in files():
            tree = tree_of(path)
            taken = [node.name for node in tree.body if isinstance(node, ast.ClassDef)]
            taken += [alias.name for node in tree.body if isinstance(node, ast.ImportFrom) for alias in node.names]
            for node in ast.walk(tree):
                if isinstance(node, ast.arg):
                    self.assertNotIn(node.arg, taken, (path.name, node.lineno, "L15"))
                if isinstance(node, ast.Name) and isinstance(node.ctx, ast.Store):
                    self.assertNotIn(node.id, taken, (path.name, node.lineno, "L15"))

    def test_classes_are_called_or_asked_for(self):
        classes = [node.name for _, node in nodes(ast.ClassDef)]
        for path in files():
            pairs, parents = with_parents(path)
            for node, parent in pairs:
                if not isinstance(node, ast.Name) or node.id not in classes:
                    continue
                if isinstance(parent, ast.Tuple):
                    parent = parents[parent]
                right = isinstance(parent, (ast.ClassDef, ast.ExceptHandler, ast.Raise))
                right = right or called(parent) == "isinstance"
                right = right or isinstance(parent, ast.Call) and parent.func == node
                right = right or isinstance(parent, ast.Attribute) and parent.attr == "__init__"
                self.assertTrue(right, (path.name, node.lineno, node.id, "L18"))

    def test_walked_on_the_spot(self):
        for path in files():
            pairs, _ = with_parents(path)
            for node, parent in pairs:
                method = isinstance(node, ast.Call) and isinstance(node.func, ast.Attribute) and node.func.attr
                if called(node) not in WALKED and method not in WALKED_METHODS:
                    continue
                right = isinstance(parent, (ast.For, ast.comprehension)) and parent.iter == node
                right = right or called(parent) in WALKERS and parent.args[0] == node
                self.assertTrue(right, (path.name, node.lineno, "L23"))

    def test_sets_are_asked_on_the_spot(self):
        for path in files():
            pairs, parents = with_parents(path)
            for node, parent in pairs:
                if not isinstance(node, ast.Set) and called(node) not in ("set", "frozenset"):
                    continue
                while isinstance(parent, ast.BinOp):
                    parent = parents[parent]
                right = isinstance(parent, ast.Compare) or called(parent) in ("sorted", "len") and not parent.keywords
                self.assertTrue(right, (path.name, node.lineno, "L24"))

    def test_keywords_at_pythons_own(self):
        right = {"sorted": ["key", "reverse"], "min": ["key", "default"], "max": ["key", "default"], "sum": ["start"],
                 "enumerate": ["start"], "zip": ["strict"]}
        for name, node in nodes(ast.Call):
            if called(node) in PYTHONS_OWN:
                for keyword in node.keywords:
                    self.assertIn(keyword.arg, right.get(called(node), []), (name, node.lineno, "L22"))

    def test_texts_and_inits(self):
        for name, node in nodes(ast.Constant):
            if isinstance(node.value, str):
                self.assertNotIn("%", node.value, (name, node.lineno, "L27"))
        for name, node in nodes(ast.FunctionDef):
            if node.name == "__init__":
                for row in ast.walk(node):
                    self.assertFalse(isinstance(row, ast.Return) and row.value, (name, node.lineno, "L28"))


if __name__ == "__main__":
    unittest.main()
