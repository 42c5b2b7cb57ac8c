"""Those rules of the language subset that a reader of the syntax can see (LANGUAGE.md, L1 to L28)."""

import ast
import builtins
import pathlib
import re
import unittest

PACKAGE = pathlib.Path(__file__).resolve().parent.parent / "bestcalls"

BUILTINS = set(
    "len range enumerate zip min max sum abs sorted reversed int str bool bytes list tuple dict set frozenset "
    "isinstance ord repr any all divmod Exception ValueError TypeError KeyError IndexError LookupError "
    "ZeroDivisionError ArithmeticError OverflowError RuntimeError NotImplementedError AttributeError "
    "StopIteration".split())

METHODS = set(
    "append clear copy count endswith extend find get index insert isalnum isalpha isdigit islower isspace isupper "
    "items join keys ljust lower lstrip partition pop remove replace reverse rfind rjust rpartition rsplit rstrip "
    "setdefault split splitlines startswith strip update upper values zfill bit_length title capitalize swapcase "
    "casefold center expandtabs removeprefix removesuffix rindex isascii isdecimal isnumeric istitle isidentifier "
    "isprintable sort add discard".split())

WORDS = (
    r"\b(type|typing|typing_extensions|enum|Enum|IntEnum|StrEnum|Flag|IntFlag|Generic|Protocol|ABC|ABCMeta|namedtuple|"
    r"NamedTuple|TypedDict|TYPE_CHECKING|abstractmethod)\b|dataclass|overload|contextmanager")

BARRED_NAMES = set(
    "register mro elements open input version_info with_traceback add_note attrgetter breakpoint builtins compile "
    "copyright credits delattr dir eval exec exit gc getattr globals hasattr help id importlib license locals "
    "methodcaller os quit setattr super type vars sys".split())

BARRED_ATTRIBUTES = set(
    "items keys values pop update append clear extend insert remove reverse setdefault sort args encode decode hex "
    "fromhex format as_integer_ratio bit_count conjugate from_bytes is_integer to_bytes real imag numerator "
    "denominator".split())

BARRED_NODES = (
    ast.With, ast.AsyncWith, ast.AsyncFor, ast.AsyncFunctionDef, ast.Await, ast.Global, ast.Nonlocal, ast.Yield,
    ast.YieldFrom, ast.Match, ast.GeneratorExp, ast.NamedExpr, ast.Import, ast.Div, ast.MatMult, ast.TypeIgnore)

DOUBLE = {"__init__", "__eq__", "__repr__", "__str__", "__len__"}


def files():
    return sorted(path for path in PACKAGE.iterdir() if path.name != "__pycache__")


def trees():
    return [(path, ast.parse(path.read_text())) for path in files()]


def defined(tree):
    """The names that a module binds at its own level, imports left out."""
    names = []
    for node in tree.body:
        if isinstance(node, (ast.FunctionDef, ast.ClassDef)):
            names.append(node.name)
        elif isinstance(node, ast.Assign):
            names.extend(target.id for target in node.targets)
    return names


def imported(tree):
    return [(node.module, one.name) for node in tree.body if isinstance(node, ast.ImportFrom) for one in node.names]


class TestLanguage(unittest.TestCase):

    def test_files(self):
        self.assertIn("__init__.py", [path.name for path in files()])
        for path in files():
            self.assertRegex(path.name, r"^([a-z][a-z0-9_]*|__init__|__main__)\.py$")
            text = path.read_bytes().decode("ascii")
            self.assertRegex(text, r"\A[\n -~]*\Z", path.name)
            lines = text.split("\n")
            self.assertLessEqual(len(lines), 401, path.name)
            self.assertLessEqual(max(len(line) for line in lines), 120, path.name)
            self.assertIsNone(re.search(WORDS, text), path.name)

    def test_module_level(self):
        for path, tree in trees():
            for number, node in enumerate(tree.body):
                docstring = number == 0 and isinstance(node, ast.Expr) and isinstance(node.value, ast.Constant)
                plain = isinstance(node, (ast.ImportFrom, ast.FunctionDef, ast.ClassDef, ast.Assign))
                self.assertTrue(docstring or plain, (path.name, node.lineno))
            names = defined(tree) + [name for _, name in imported(tree)]
            self.assertEqual(len(names), len(set(names)), path.name)

    def test_imports(self):
        homes = {"bestcalls." + path.stem: defined(tree) for path, tree in trees()}
        needs = {"bestcalls." + path.stem: {home for home, _ in imported(tree)} for path, tree in trees()}
        for path, tree in trees():
            for node in ast.walk(tree):
                if isinstance(node, ast.ImportFrom):
                    self.assertIn(node, tree.body)
                    self.assertEqual(node.level, 0)
                    self.assertEqual([one.asname for one in node.names if one.asname], [])
            used = {node.id for node in ast.walk(tree) if isinstance(node, ast.Name)}
            for home, name in imported(tree):
                self.assertIn(name, homes[home], path.name)
                self.assertIn(name, used, path.name)
        while needs:
            free = [home for home, others in needs.items() if not others & set(needs)]
            self.assertTrue(free, "a ring of imports")
            for home in free:
                del needs[home]

    def test_functions_and_classes(self):
        for path, tree in trees():
            for node in ast.walk(tree):
                where = (path.name, getattr(node, "lineno", 0))
                if isinstance(node, ast.FunctionDef):
                    self.assertLessEqual(node.end_lineno - node.lineno, 39, where)
                    self.assertEqual(node.decorator_list, [], where)
                    self.assertTrue(ast.get_docstring(node) or node.name == "__init__", where)
                if isinstance(node, (ast.FunctionDef, ast.Lambda)):
                    self.assertIsNone(node.args.vararg, where)
                    self.assertIsNone(node.args.kwarg, where)
                    self.assertEqual(node.args.posonlyargs, [], where)
                if isinstance(node, ast.ClassDef):
                    self.assertLessEqual(len(node.bases), 1, where)
                    self.assertEqual(node.decorator_list + node.keywords, [], where)
                    for part in node.body:
                        self.assertIsInstance(part, (ast.FunctionDef, ast.Expr), where)

    def test_statements_and_expressions(self):
        for path, tree in trees():
            for node in ast.walk(tree):
                where = (path.name, getattr(node, "lineno", 0))
                self.assertNotIsInstance(node, BARRED_NODES, where)
                if isinstance(node, (ast.For, ast.While)):
                    self.assertEqual(node.orelse, [], where)
                if isinstance(node, ast.ExceptHandler):
                    self.assertIsNotNone(node.type, where)
                if isinstance(node, ast.Compare):
                    for sign, side in zip(node.ops, node.comparators):
                        if isinstance(sign, (ast.Is, ast.IsNot)):
                            self.assertIsInstance(side, ast.Constant, where)
                            self.assertIn(side.value, (None, True, False), where)
                if isinstance(node, ast.BinOp) and isinstance(node.op, ast.Pow):
                    self.assertIsInstance(node.right, ast.Constant, where)
                    self.assertIn(node.right.value, range(65), where)
                if isinstance(node, ast.Constant):
                    self.assertNotIsInstance(node.value, (float, complex), where)
                    if isinstance(node.value, str):
                        self.assertNotIn("%", node.value, where)
                if isinstance(node, ast.FormattedValue):
                    self.assertIsNone(node.format_spec, where)

    def test_names(self):
        for path, tree in trees():
            taken = [name for _, name in imported(tree)]
            taken += [node.name for node in tree.body if isinstance(node, ast.ClassDef)]
            own = set(defined(tree)) | set(taken)
            for node in ast.walk(tree):
                where = (path.name, getattr(node, "lineno", 0))
                bound = []
                if isinstance(node, ast.FunctionDef):
                    bound = [node.name] if node.name not in DOUBLE else []
                if isinstance(node, ast.arg):
                    bound = [node.arg]
                    self.assertNotIn(node.arg, taken, where)
                    self.assertNotIn(node.arg, dir(builtins), where)
                if isinstance(node, ast.Name):
                    bound = [node.id]
                    if isinstance(node.ctx, ast.Store):
                        self.assertNotIn(node.id, taken, where)
                        self.assertNotIn(node.id, dir(builtins), where)
                    elif node.id in dir(builtins) and node.id not in own:
                        self.assertIn(node.id, BUILTINS, where)
                for name in bound:
                    self.assertRegex(name, r"^[A-Za-z][A-Za-z0-9_]*$", where)
                    self.assertNotIn(name, BARRED_NAMES, where)

    def test_attributes(self):
        methods, attributes = set(), set()
        for _, tree in trees():
            for node in ast.walk(tree):
                if isinstance(node, ast.ClassDef):
                    methods |= {part.name for part in node.body if isinstance(part, ast.FunctionDef)}
                if isinstance(node, ast.Attribute) and isinstance(node.ctx, ast.Store):
                    attributes.add(node.attr)
        self.assertEqual(methods & attributes, set())
        for path, tree in trees():
            called = {id(node.func) for node in ast.walk(tree) if isinstance(node, ast.Call)}
            for node in ast.walk(tree):
                if isinstance(node, ast.Attribute) and id(node) not in called:
                    self.assertIn(node.attr, attributes, (path.name, node.lineno))
        # Those that the interface asks a hall and a desk to have as methods, and those of values.
        later = {"kind", "deed", "rule", "drop", "unkind", "program", "ask", "kept", "reckoned", "run", "say"}
        self.assertEqual(attributes & (later | BARRED_ATTRIBUTES), set())

    def test_errors(self):
        for path, tree in trees():
            for node in ast.walk(tree):
                where = (path.name, getattr(node, "lineno", 0))
                if isinstance(node, ast.Raise):
                    self.assertIsInstance(node.exc, ast.Call, where)
                    self.assertIsInstance(node.exc.func, ast.Name, where)
                if isinstance(node, ast.ExceptHandler):
                    self.assertNotIn(getattr(node.type, "id", ""), BUILTINS, where)

    def test_sets(self):
        for path, tree in trees():
            for node in ast.walk(tree):
                if isinstance(node, (ast.For, ast.comprehension)):
                    where = (path.name, node.iter.lineno)
                    self.assertNotIsInstance(node.iter, (ast.Set, ast.SetComp), where)
                    if isinstance(node.iter, ast.Call):
                        self.assertNotEqual(getattr(node.iter.func, "id", ""), "set", where)

    def test_methods(self):
        own = set()
        for _, tree in trees():
            for node in ast.walk(tree):
                if isinstance(node, ast.ClassDef):
                    own |= {part.name for part in node.body if isinstance(part, ast.FunctionDef)}
        for path, tree in trees():
            for node in ast.walk(tree):
                if isinstance(node, ast.Call) and isinstance(node.func, ast.Attribute):
                    self.assertIn(node.func.attr, METHODS | own, (path.name, node.lineno))


if __name__ == "__main__":
    unittest.main()
