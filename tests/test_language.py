"""The package keeps to the rules of LANGUAGE.md, as far as they can be seen in its text."""

import ast
import builtins
import pathlib
import re
import unittest

PACKAGE = pathlib.Path(__file__).resolve().parent.parent / "fewspeak"

STATEMENTS = (ast.Assign, ast.AugAssign, ast.AnnAssign, ast.If, ast.While, ast.For, ast.Return, ast.Break, ast.Continue,
              ast.Pass, ast.Raise, ast.Try, ast.Expr, ast.FunctionDef, ast.ClassDef, ast.ImportFrom)
EXPRESSIONS = (ast.Constant, ast.List, ast.Tuple, ast.Dict, ast.Set, ast.BinOp, ast.UnaryOp, ast.BoolOp, ast.Compare,
               ast.IfExp, ast.Call, ast.Attribute, ast.Subscript, ast.Slice, ast.ListComp, ast.JoinedStr,
               ast.FormattedValue, ast.Name, ast.Lambda)
TOP = (ast.FunctionDef, ast.ClassDef, ast.ImportFrom, ast.Assign)
OWN_NAMES = set("""len range enumerate zip min max sum abs sorted reversed int str bool list tuple dict set frozenset
    isinstance ord repr any all divmod Exception ValueError TypeError KeyError IndexError LookupError ZeroDivisionError
    ArithmeticError OverflowError RuntimeError NotImplementedError AttributeError StopIteration""".split())
OWN_METHODS = set("""append clear copy count endswith extend find get index insert isalnum isalpha isdigit islower
    isspace isupper items join keys ljust lower lstrip partition pop remove replace reverse rfind rjust rpartition rsplit
    rstrip setdefault split splitlines startswith strip update upper values zfill bit_length""".split())
DOUBLE = {"__init__", "__eq__", "__repr__", "__str__", "__len__"}
UNUSED = set("""register mro elements open input version_info with_traceback add_note attrgetter breakpoint builtins
    compile copyright credits delattr dir eval exec exit gc getattr globals hasattr help id importlib license locals
    methodcaller os quit setattr super type vars sys""".split())
NOWHERE = re.compile(r"\b(type|typing|typing_extensions|enum|Enum|IntEnum|StrEnum|Flag|IntFlag|Generic|Protocol|ABC"
                     r"|ABCMeta|namedtuple|NamedTuple|TypedDict|TYPE_CHECKING|abstractmethod)\b"
                     r"|dataclass|overload|contextmanager")


def bound_names(tree):
    """Each name that a def, a class, a parameter, an assignment or a loop binds."""
    for node in ast.walk(tree):
        if isinstance(node, (ast.FunctionDef, ast.ClassDef)):
            yield node.name
        elif isinstance(node, ast.arg):
            yield node.arg
        elif isinstance(node, ast.Name) and isinstance(node.ctx, ast.Store):
            yield node.id


def local_names(tree):
    for node in ast.walk(tree):
        if isinstance(node, ast.arg):
            yield node.arg
        elif isinstance(node, ast.FunctionDef):
            yield from (part.id for part in ast.walk(node)
                        if isinstance(part, ast.Name) and isinstance(part.ctx, ast.Store))


def top_names(tree):
    """The names that a file's top defines, and those that it imports."""
    defined, imported = [], []
    for node in tree.body:
        if isinstance(node, (ast.FunctionDef, ast.ClassDef)):
            defined.append(node.name)
        elif isinstance(node, ast.Assign):
            defined.extend(target.id for target in node.targets)
        elif isinstance(node, ast.ImportFrom):
            imported.extend(alias.asname or alias.name for alias in node.names)
    return defined, imported


class LanguageTest(unittest.TestCase):
    @classmethod
    def setUpClass(cls):
        cls.files = sorted(PACKAGE.rglob("*.py"))
        cls.texts = {path: path.read_text(encoding="utf-8") for path in cls.files}
        cls.trees = {path: ast.parse(text) for path, text in cls.texts.items()}

    def nodes(self, *kinds):
        for path, tree in self.trees.items():
            for node in ast.walk(tree):
                if isinstance(node, kinds):
                    yield f"{path.name}:{getattr(node, 'lineno', '?')}", node

    def test_files(self):
        things = [path for path in PACKAGE.rglob("*") if "__pycache__" not in path.parts]
        self.assertIn(PACKAGE / "__init__.py", things)
        for path in things:
            self.assertRegex(path.name, r"^[a-z][a-z0-9_]*\.py$|^__init__\.py$")
            self.assertNotIn(path.stem, dir(builtins))

    def test_signs_and_sizes(self):
        for path, text in self.texts.items():
            rows = text.split("\n")
            with self.subTest(path.name):
                self.assertRegex(text, r"^[ -~\n]*$")
                self.assertLessEqual(len(rows) - 1, 400)
                self.assertLessEqual(max(map(len, rows)), 120)
                self.assertIsNone(NOWHERE.search(text))
        for where, node in self.nodes(ast.FunctionDef):
            self.assertLessEqual(node.end_lineno - node.lineno + 1, 40, where)

    def test_statements_and_expressions(self):
        for where, node in self.nodes(ast.stmt):
            self.assertIsInstance(node, STATEMENTS, where)
        for where, node in self.nodes(ast.expr):
            self.assertIsInstance(node, EXPRESSIONS, where)
        for where, node in self.nodes(ast.Constant):
            self.assertIn(type(node.value), (int, str, bool, type(None)), where)
            self.assertFalse(isinstance(node.value, str) and "%" in node.value, where)
        for where, node in self.nodes(ast.Div, ast.MatMult, ast.NamedExpr, ast.Starred, ast.GeneratorExp):
            self.fail(f"{where} {ast.dump(node)}")
        for where, node in self.nodes(ast.Assign):
            self.assertEqual(len(node.targets), 1, where)
        for where, node in self.nodes(ast.For, ast.While):
            self.assertEqual(node.orelse, [], where)
        for where, node in self.nodes(ast.Try):
            self.assertEqual(node.finalbody, [], where)
        for where, node in self.nodes(ast.ListComp):
            self.assertEqual(len(node.generators), 1, where)
            self.assertLessEqual(len(node.generators[0].ifs), 1, where)
        for where, node in self.nodes(ast.FormattedValue):
            self.assertIsInstance(node.value, ast.Name, where)
            self.assertIsNone(node.format_spec, where)

    def test_the_top_of_a_file(self):
        for path, tree in self.trees.items():
            with self.subTest(path.name):
                self.assertIsNotNone(ast.get_docstring(tree))
                for node in tree.body[1:]:
                    self.assertIsInstance(node, TOP)
                defined, imported = top_names(tree)
                self.assertEqual(len(set(defined + imported)), len(defined + imported))
                classes = {node.name for node in tree.body if isinstance(node, ast.ClassDef)}
                self.assertEqual(set(local_names(tree)) & (set(imported) | classes), set())
        for where, node in self.nodes(ast.Expr):
            self.assertIsInstance(node.value, (ast.Call, ast.Constant), where)

    def test_imports(self):
        for where, node in self.nodes(ast.ImportFrom):
            self.assertEqual(node.level, 0, where)
            package, module = node.module.split(".")
            self.assertEqual(package, "fewspeak", where)
            defined = top_names(self.trees[PACKAGE / f"{module}.py"])[0]
            for alias in node.names:
                self.assertIn(alias.name, defined, where)

    def test_no_two_files_draw_from_one_another(self):
        draws = {path.stem: {node.module.split(".")[1] for node in tree.body if isinstance(node, ast.ImportFrom)}
                 for path, tree in self.trees.items()}
        while draws:
            free = [name for name in draws if not draws[name] & set(draws)]
            self.assertTrue(free, draws)
            for name in free:
                draws.pop(name)

    def test_functions_and_classes(self):
        for where, node in self.nodes(ast.FunctionDef, ast.ClassDef):
            self.assertEqual(node.decorator_list, [], where)
        for where, node in self.nodes(ast.arguments):
            self.assertEqual((node.vararg, node.kwarg, node.kwonlyargs, node.posonlyargs), (None, None, [], []), where)
        methods, stored = set(), set()
        for where, node in self.nodes(ast.ClassDef):
            self.assertLessEqual(len(node.bases), 1, where)
            for part in node.body:
                self.assertIsInstance(part, (ast.FunctionDef, ast.Pass), where)
            names = [part.name for part in node.body if isinstance(part, ast.FunctionDef)]
            self.assertEqual(len(set(names)), len(names), where)
            methods.update(names)
        for where, node in self.nodes(ast.Attribute):
            if isinstance(node.ctx, ast.Store):
                stored.add(node.attr)
        self.assertEqual(methods & stored, set())

    def test_names(self):
        own = set(dir(builtins))
        for where, node in self.nodes(ast.Name):
            self.assertTrue(node.id not in own or node.id in OWN_NAMES, f"{where} {node.id}")
            self.assertNotIn(node.id, UNUSED, where)
        for path, tree in self.trees.items():
            with self.subTest(path.name):
                self.assertEqual(set(local_names(tree)) & own, set())
                for name in bound_names(tree):
                    self.assertTrue(name in DOUBLE or re.match(r"[A-Za-z][A-Za-z0-9_]*$", name), name)

    def test_called_methods(self):
        methods = {node.name for tree in self.trees.values() for node in ast.walk(tree)
                   if isinstance(node, ast.FunctionDef)}
        for where, node in self.nodes(ast.Call):
            if isinstance(node.func, ast.Attribute):
                self.assertIn(node.func.attr, OWN_METHODS | methods, where)

    def test_lambdas_with_the_same_parameters_stand_on_rows_of_their_own(self):
        rows = [(where, ast.unparse(node.args)) for where, node in self.nodes(ast.Lambda)]
        self.assertEqual(len(set(rows)), len(rows), rows)

    def test_keywords(self):
        allowed = {"sorted": {"key", "reverse"}, "min": {"key", "default"}, "max": {"key", "default"}, "sum": {"start"},
                   "enumerate": {"start"}, "zip": {"strict"}}
        for where, node in self.nodes(ast.Call):
            for keyword in node.keywords:
                self.assertIn(keyword.arg, allowed.get(ast.unparse(node.func), set()), where)

    def test_powers_have_a_written_exponent(self):
        for where, node in self.nodes(ast.BinOp):
            if isinstance(node.op, ast.Pow):
                self.assertIsInstance(node.right, ast.Constant, where)

    def test_is_stands_beside_none_true_and_false_alone(self):
        for where, node in self.nodes(ast.Compare):
            if isinstance(node.ops[0], (ast.Is, ast.IsNot)):
                self.assertIn(ast.unparse(node.comparators[0]), ("None", "True", "False"), where)


if __name__ == "__main__":
    unittest.main()
