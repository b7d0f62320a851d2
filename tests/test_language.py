"""The rules of the language subset that can be read off the files of the package."""

import ast
import builtins
import pathlib
import re
import unittest

PACKAGE = pathlib.Path(__file__).resolve().parent.parent / "doorlots"
FILES = sorted(PACKAGE.rglob("*.py"))
TREES = {file: ast.parse(file.read_text("ascii")) for file in FILES}
BUILTINS = set(
    "len range enumerate zip min max sum abs sorted reversed int str bool bytes list tuple dict set frozenset isinstance "
    "ord repr any all divmod iter next super property staticmethod classmethod Exception ValueError TypeError KeyError "
    "IndexError LookupError ZeroDivisionError ArithmeticError OverflowError RuntimeError NotImplementedError "
    "AttributeError StopIteration NotImplemented".split())
BARRED_WORDS = re.compile(
    r"\b(type|typing|typing_extensions|enum|Enum|IntEnum|StrEnum|Flag|IntFlag|Generic|Protocol|ABC|ABCMeta|namedtuple"
    r"|NamedTuple|TypedDict|TYPE_CHECKING|abstractmethod)\b|dataclass|overload|contextmanager")
BARRED_NAMES = {"register", "mro", "elements", "open", "input", "law", "version_info", "with_traceback", "add_note"}
METHODS = {"__init__", "__eq__", "__repr__", "__str__", "__len__", "__enter__", "__exit__", "__call__", "__iter__"}
BUILTIN_METHODS = set(
    "append clear copy count endswith extend find get index insert isalnum isalpha isdigit islower isspace isupper items "
    "join keys ljust lower lstrip partition pop remove replace reverse rfind rjust rpartition rsplit rstrip setdefault "
    "split splitlines startswith strip update upper values zfill bit_length".split())
BARRED_NODES = (
    ast.Global, ast.AsyncFunctionDef, ast.AsyncFor, ast.AsyncWith, ast.Await, ast.Div, ast.MatMult, ast.Import)


def nodes(kind):
    for file, tree in TREES.items():
        for node in ast.walk(tree):
            if isinstance(node, kind):
                yield f"{file.name}:{getattr(node, 'lineno', 0)}", node


def bound_names(node):
    """The names that a node gives a meaning."""
    if isinstance(node, (ast.FunctionDef, ast.ClassDef)):
        return [node.name]
    if isinstance(node, ast.arg):
        return [node.arg]
    if isinstance(node, ast.alias):
        return [node.asname or node.name]
    if isinstance(node, ast.Name) and not isinstance(node.ctx, ast.Load):
        return [node.id]
    if isinstance(node, ast.Attribute) and not isinstance(node.ctx, ast.Load):
        return [node.attr]
    return []


def places(kind):
    """The nodes of a kind with the node around each."""
    for file, tree in TREES.items():
        for around in ast.walk(tree):
            for node in ast.iter_child_nodes(around):
                if isinstance(node, kind):
                    yield f"{file.name}:{getattr(node, 'lineno', 0)}", node, around


def called(node):
    """The name of the function or method that is called, or an empty string."""
    return getattr(node.func, "id", getattr(node.func, "attr", "")) if isinstance(node, ast.Call) else ""


class Files(unittest.TestCase):
    def test_only_plain_files(self):
        found = [file for file in PACKAGE.rglob("*") if file.is_file() and "__pycache__" not in file.parts]
        self.assertEqual(sorted(found), FILES)
        for file in FILES:
            self.assertRegex(file.name, r"^([a-z][a-z0-9_]*|__init__|__main__)\.py$")
        self.assertTrue((PACKAGE / "__init__.py").is_file())

    def test_sizes_and_characters(self):
        for file in FILES:
            lines = file.read_text("ascii").split("\n")
            self.assertLessEqual(len(lines), 400, file.name)
            for number, row in enumerate(lines, start=1):
                self.assertLessEqual(len(row), 120, f"{file.name}:{number}")
                self.assertRegex(row, r"^[ -~]*$", f"{file.name}:{number}")
                self.assertIsNone(BARRED_WORDS.search(row), f"{file.name}:{number}")

    def test_function_sizes(self):
        for place, node in nodes(ast.FunctionDef):
            self.assertLessEqual(node.end_lineno - node.lineno + 1, 40, place)


class Shape(unittest.TestCase):
    def test_module_level(self):
        for file, tree in TREES.items():
            for node in tree.body:
                docstring = isinstance(node, ast.Expr) and node is tree.body[0]
                allowed = isinstance(node, (ast.ImportFrom, ast.FunctionDef, ast.ClassDef, ast.Assign))
                self.assertTrue(docstring or allowed, f"{file.name}:{node.lineno}")

    def test_imports(self):
        for place, node in nodes(ast.ImportFrom):
            self.assertEqual((node.level, node.module.split(".")[0]), (0, "doorlots"), place)
            source = TREES[PACKAGE.parent / (node.module.replace(".", "/") + ".py")]
            defined = [name for top in source.body for part in ast.walk(top) for name in bound_names(part)
                       if not isinstance(top, ast.ImportFrom)]
            for alias in node.names:
                self.assertIn(alias.name, defined, place)

    def test_no_two_files_import_from_each_other(self):
        sources = {file.stem: [node.module.split(".")[1] for node in tree.body if isinstance(node, ast.ImportFrom)]
                   for file, tree in TREES.items()}
        left = dict(sources)
        while left:
            ready = [name for name in left if not any(source in left for source in left[name])]
            self.assertTrue(ready, f"in a ring: {sorted(left)}")
            for name in ready:
                del left[name]

    def test_methods(self):
        own = {node.name for place, node in nodes(ast.FunctionDef)}
        for place, node in nodes(ast.Call):
            if isinstance(node.func, ast.Attribute):
                self.assertIn(node.func.attr, BUILTIN_METHODS | own, place)

    def test_what_a_loop_goes_over_is_not_modified(self):
        for place, node in nodes(ast.For):
            over = ast.unparse(node.iter)
            for part in (inner for row in node.body for inner in ast.walk(row)):
                if isinstance(part, ast.Call) and isinstance(part.func, ast.Attribute):
                    changed = part.func.attr in ("append", "extend", "insert", "pop", "remove", "clear", "update")
                    self.assertFalse(changed and ast.unparse(part.func.value) == over, place)

    def test_no_barred_parts(self):
        for place, node in nodes(BARRED_NODES):
            self.fail(f"{place}: {node}")
        for place, node in nodes(ast.Compare):
            for sign, right in zip(node.ops, node.comparators):
                if isinstance(sign, (ast.Is, ast.IsNot)):
                    self.assertIn(getattr(right, "value", 0), (None, True, False), place)
        for place, node in nodes(ast.Constant):
            self.assertNotIsInstance(node.value, (float, complex), place)
            self.assertNotIn("%", str(node.value), place)

    def test_no_generator_expression_beside_equality(self):
        for place, node in nodes(ast.Call):
            if getattr(node.func, "id", "") in ("any", "all", "min", "max", "sum", "sorted"):
                self.assertNotIn(ast.GeneratorExp, [type(given) for given in node.args], place)

    def test_double_underscore_methods(self):
        for place, node in nodes(ast.FunctionDef):
            if node.name.startswith("__"):
                self.assertIn(node.name, METHODS, place)


class Places(unittest.TestCase):
    def test_sets(self):
        """They are made on the spot in `sorted` and `len`."""
        for place, node, around in places((ast.Set, ast.SetComp, ast.Call)):
            if called(node) == "set" or not isinstance(node, ast.Call):
                joined = isinstance(around, ast.BinOp) and called(around.left) == called(around.right) == "set"
                self.assertTrue(joined or called(around) in ("sorted", "len"), place)

    def test_what_is_gone_through_on_the_spot(self):
        for place, node, around in places(ast.Call):
            method = isinstance(node.func, ast.Attribute) and called(node) in ("items", "keys", "values")
            if method or called(node) in ("zip", "enumerate", "range", "reversed"):
                loop = isinstance(around, (ast.For, ast.comprehension)) and around.iter is node
                first = called(around) in ("list", "tuple", "dict", "sorted", "sum") and around.args[0] is node
                self.assertTrue(loop or first, place)

    def test_no_generators(self):
        for place, node in nodes((ast.GeneratorExp, ast.Yield, ast.YieldFrom)):
            self.fail(f"{place}: {node}")

    def test_errors_that_are_caught_and_raised(self):
        own = {node.name for node in TREES[PACKAGE / "errors.py"].body if isinstance(node, ast.ClassDef)}
        for place, node in nodes(ast.ExceptHandler):
            self.assertIn(getattr(node.type, "id", ""), own, place)
        for place, node in nodes(ast.Raise):
            self.assertIn(called(node.exc), own, place)

    def test_what_a_finally_contains(self):
        for place, node in nodes(ast.Try):
            for row in node.finalbody:
                for part in ast.walk(row):
                    self.assertNotIsInstance(part, (
                        ast.Call, ast.Return, ast.Break, ast.Continue, ast.Raise, ast.Subscript, ast.For, ast.While), place)

    def test_tables_of_functions_are_read_only(self):
        """What stands at module level is never changed, and a function of a table has a name where it is called."""
        for file, tree in TREES.items():
            tables = [row.targets[0].id for row in tree.body if isinstance(row, ast.Assign)]
            for node in ast.walk(tree):
                if isinstance(node, ast.Call):
                    self.assertNotIsInstance(node.func, (ast.Subscript, ast.Call), f"{file.name}:{node.lineno}")
                if isinstance(node, ast.Subscript) and not isinstance(node.ctx, ast.Load):
                    self.assertNotIn(getattr(node.value, "id", ""), tables, f"{file.name}:{node.lineno}")

    def test_calls_of_own_functions_take_what_is_passed(self):
        for file, tree in TREES.items():
            known = {}
            for row in tree.body:
                source = TREES[PACKAGE / (row.module.split(".")[1] + ".py")] if isinstance(row, ast.ImportFrom) else tree
                names = [alias.name for alias in row.names] if isinstance(row, ast.ImportFrom) else [getattr(row, "name", "")]
                known.update({node.name: node.args for node in source.body
                              if isinstance(node, ast.FunctionDef) and node.name in names})
            for node in ast.walk(tree):
                if isinstance(node, ast.Call) and getattr(node.func, "id", "") in known:
                    args = known[node.func.id]
                    most = len(args.args)
                    self.assertTrue(most - len(args.defaults) <= len(node.args) <= most, f"{file.name}:{node.lineno}")


class Names(unittest.TestCase):
    def test_bound_names(self):
        for place, node in nodes(ast.AST):
            for name in bound_names(node):
                self.assertRegex(name, r"^([A-Za-z][A-Za-z0-9_]*|__[a-z]+__)$", place)
                self.assertNotIn(name, BARRED_NAMES, place)
                if not isinstance(node, ast.Attribute):
                    self.assertNotIn(name, vars(builtins), place)

    def test_no_parameter_or_variable_is_called_like_a_class_or_an_import(self):
        for file, tree in TREES.items():
            taken = {alias.asname or alias.name for node in tree.body if isinstance(node, ast.ImportFrom)
                     for alias in node.names}
            taken |= {node.name for node in tree.body if isinstance(node, ast.ClassDef)}
            for node in ast.walk(tree):
                if isinstance(node, (ast.arg, ast.Name)):
                    self.assertEqual(taken & set(bound_names(node)), set(), f"{file.name}:{node.lineno}")

    def test_builtins(self):
        for place, node in nodes(ast.Name):
            if isinstance(node.ctx, ast.Load) and node.id in vars(builtins):
                self.assertIn(node.id, BUILTINS, place)

    def test_no_name_is_both_a_method_and_an_attribute(self):
        methods = {part.name for place, node in nodes(ast.ClassDef) for part in node.body
                   if isinstance(part, ast.FunctionDef)}
        attributes = {node.attr for place, node in nodes(ast.Attribute) if isinstance(node.ctx, ast.Store)}
        self.assertEqual(methods & attributes, set())
