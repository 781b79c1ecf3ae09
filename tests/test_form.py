"""The form of the package's own files: the small part of Python that it keeps to.

What can be told from the files alone is asked here; each check names what it looks for.
"""

import ast
import builtins
import pathlib
import re
import unittest

PACKAGE = pathlib.Path(__file__).resolve().parent.parent / "hushduel"
NAMES_OF_PYTHON = set(
    "len range enumerate zip min max sum abs sorted reversed int str bool list tuple dict set frozenset isinstance ord repr"
    " any all divmod Exception ValueError TypeError KeyError IndexError LookupError ZeroDivisionError ArithmeticError"
    " OverflowError RuntimeError NotImplementedError AttributeError StopIteration".split()
)
METHODS = set(
    "append clear copy count endswith extend find get index insert isalnum isalpha isdigit islower isspace isupper items"
    " join keys ljust lower lstrip partition pop remove replace reverse rfind rjust rpartition rsplit rstrip setdefault"
    " split splitlines startswith strip update upper values zfill bit_length".split()
)
WORDS = (
    "type typing typing_extensions enum Enum IntEnum StrEnum Flag IntFlag Generic Protocol ABC ABCMeta namedtuple NamedTuple"
    " TypedDict TYPE_CHECKING abstractmethod"
).split()
STATEMENTS = (
    ast.Assign, ast.AugAssign, ast.If, ast.While, ast.For, ast.Return, ast.Break, ast.Continue, ast.Pass, ast.Raise, ast.Try,
    ast.Expr, ast.FunctionDef, ast.ClassDef, ast.ImportFrom,
)
OUT = (
    ast.Set, ast.SetComp, ast.DictComp, ast.GeneratorExp, ast.NamedExpr, ast.Starred, ast.Div, ast.MatMult,
    ast.Await, ast.Yield, ast.YieldFrom,
)
WALKED = ("zip", "enumerate", "reversed", "range")
WALKERS = "list tuple dict sorted sum any all enumerate zip min max join".split()
CHANGES = "append clear extend insert pop remove reverse setdefault update".split()
TOPS = (ast.ImportFrom, ast.FunctionDef, ast.ClassDef, ast.Assign)


def files():
    return sorted(path for path in PACKAGE.iterdir() if path.name != "__pycache__")


def trees():
    return [(path.name, ast.parse(path.read_text("utf-8"))) for path in files()]


def nodes():
    return [(name, node) for name, tree in trees() for node in ast.walk(tree)]


def called(call):
    """The bare name of what is called."""
    return call.func.attr if isinstance(call.func, ast.Attribute) else ast.unparse(call.func)


def calls_within(tree):
    """Each call of a file with what stands straight around it."""
    return [(inner, node) for node in ast.walk(tree) for inner in ast.iter_child_nodes(node) if isinstance(inner, ast.Call)]


def bound_names(tree):
    """All names that a file binds anywhere, with its imports."""
    found = set()
    for node in ast.walk(tree):
        if isinstance(node, (ast.FunctionDef, ast.ClassDef)):
            found.add(node.name)
        elif isinstance(node, ast.arg):
            found.add(node.arg)
        elif isinstance(node, ast.Name) and isinstance(node.ctx, ast.Store):
            found.add(node.id)
        elif isinstance(node, ast.alias):
            found.add(node.name)
        elif isinstance(node, ast.ExceptHandler) and node.name:
            found.add(node.name)
    return found


class Files(unittest.TestCase):
    def test_only_plain_files_lie_in_the_package(self):
        self.assertIn("__init__.py", [path.name for path in files()])
        for path in files():
            self.assertTrue(path.is_file(), path)
            self.assertRegex(path.name, r"\A(__init__|[a-z][a-z0-9_]*)\.py\Z")

    def test_signs_and_sizes(self):
        for path in files():
            text = path.read_bytes().decode("ascii")
            rows = text.split("\n")
            self.assertLessEqual(len(rows), 400, path.name)
            for number, row in enumerate(rows, 1):
                with self.subTest(file=path.name, row=number):
                    self.assertLessEqual(len(row), 120)
                    self.assertRegex(row, r"\A[ -~]*\Z")

    def test_words_that_stand_nowhere(self):
        for path in files():
            text = path.read_text("utf-8")
            found = [word for word in re.findall(r"\w+", text) if word in WORDS]
            self.assertEqual(found, [], path.name)
            self.assertNotRegex(text, "dataclass|overload|contextmanager")


class Tops(unittest.TestCase):
    def test_what_stands_at_the_top(self):
        for name, tree in trees():
            rest = tree.body[1:] if ast.get_docstring(tree) is not None else tree.body
            for node in rest:
                self.assertIsInstance(node, TOPS, f"{name}: {ast.unparse(node)}")

    def test_each_name_is_bound_once(self):
        for name, tree in trees():
            found = []
            for node in tree.body:
                if isinstance(node, (ast.FunctionDef, ast.ClassDef)):
                    found.append(node.name)
                elif isinstance(node, ast.Assign):
                    found.extend(target.id for target in node.targets)
                elif isinstance(node, ast.ImportFrom):
                    found.extend(alias.name for alias in node.names)
            self.assertEqual(len(found), len(set(found)), name)

    def test_imports_draw_from_the_file_that_defines_the_name(self):
        defined = {}
        for name, tree in trees():
            own = [node.name for node in tree.body if isinstance(node, (ast.FunctionDef, ast.ClassDef))]
            own += [target.id for node in tree.body if isinstance(node, ast.Assign) for target in node.targets]
            defined["hushduel." + name[:-3]] = own
        for name, node in nodes():
            if isinstance(node, ast.ImportFrom):
                self.assertEqual(node.level, 0, name)
                for alias in node.names:
                    self.assertIn(alias.name, defined.get(node.module, []), name)
                    self.assertIsNone(alias.asname, name)

    def test_no_two_files_draw_from_one_another(self):
        draws = {}
        for name, tree in trees():
            draws[name[:-3]] = {node.module.split(".")[1] for node in tree.body if isinstance(node, ast.ImportFrom)}
        while draws:
            free = [name for name in draws if not draws[name] & set(draws)]
            self.assertNotEqual(free, [], draws)
            draws = {name: draws[name] for name in draws if name not in free}


class Inside(unittest.TestCase):
    def test_statements(self):
        for name, node in nodes():
            if isinstance(node, ast.stmt):
                self.assertIsInstance(node, STATEMENTS, f"{name}: {ast.unparse(node)}")
            if isinstance(node, (ast.For, ast.While)):
                self.assertEqual(node.orelse, [], name)
            if isinstance(node, ast.Assign):
                self.assertEqual(len(node.targets), 1, name)
            if isinstance(node, ast.Try):
                self.assertEqual(node.finalbody, [], name)

    def test_a_row_by_itself_is_a_call_or_the_files_docstring(self):
        for name, tree in trees():
            for node in ast.walk(tree):
                if isinstance(node, ast.Expr) and node is not tree.body[0]:
                    self.assertIsInstance(node.value, ast.Call, f"{name}: {ast.unparse(node)}")

    def test_expressions(self):
        for name, node in nodes():
            self.assertNotIsInstance(node, OUT, name)
            if isinstance(node, ast.Constant):
                self.assertIn(type(node.value), (int, str, bool, type(None)), name)
                self.assertFalse(isinstance(node.value, str) and "%" in node.value, name)
            if isinstance(node, ast.ListComp):
                self.assertEqual(len(node.generators), 1, name)
                self.assertLessEqual(len(node.generators[0].ifs), 1, name)
            if isinstance(node, ast.FormattedValue):
                self.assertIsInstance(node.value, ast.Name, name)
                self.assertIsNone(node.format_spec, name)
            if isinstance(node, ast.Compare):
                for operator, right in zip(node.ops, node.comparators):
                    if isinstance(operator, (ast.Is, ast.IsNot)):
                        self.assertIsInstance(right, ast.Constant, name)

    def test_functions(self):
        for name, node in nodes():
            if isinstance(node, ast.FunctionDef):
                with self.subTest(file=name, function=node.name):
                    self.assertLessEqual(node.end_lineno - node.lineno + 1, 40)
                    self.assertEqual(node.decorator_list, [])
                    self.assertIsNone(node.args.vararg or node.args.kwarg or node.returns)
                    self.assertEqual(node.args.kwonlyargs + node.args.posonlyargs, [])
                    self.assertEqual([arg.arg for arg in node.args.args if arg.annotation], [])

    def test_classes(self):
        for name, tree in trees():
            for node in ast.walk(tree):
                if isinstance(node, ast.ClassDef):
                    self.assertIn(node, tree.body, name)
                    self.assertLessEqual(len(node.bases), 1, name)
                    self.assertEqual(node.decorator_list + node.keywords, [], name)
                    for inner in node.body:
                        self.assertIsInstance(inner, (ast.FunctionDef, ast.Pass), name)

    def test_names(self):
        for name, tree in trees():
            bound = bound_names(tree) - {"__init__"}
            self.assertEqual(bound & set(dir(builtins)), set(), name)
            for each in bound:
                self.assertRegex(each, r"\A[A-Za-z][A-Za-z0-9_]*\Z", name)
            for node in ast.walk(tree):
                if isinstance(node, ast.Name) and isinstance(node.ctx, ast.Load):
                    self.assertIn(node.id, bound | NAMES_OF_PYTHON, name)

    def test_no_local_is_called_like_a_class_or_an_import(self):
        for name, tree in trees():
            tops = {node.name for node in tree.body if isinstance(node, ast.ClassDef)}
            tops |= {alias.name for node in tree.body if isinstance(node, ast.ImportFrom) for alias in node.names}
            for top in tree.body:
                if isinstance(top, (ast.FunctionDef, ast.ClassDef)):
                    locals_of_it = bound_names(ast.Module(body=top.body, type_ignores=[]))
                    args = {node.arg for node in ast.walk(top) if isinstance(node, ast.arg)}
                    self.assertEqual((locals_of_it | args) & tops, set(), f"{name}: {top.name}")

    def test_methods(self):
        own = {node.name for name, node in nodes() if isinstance(node, ast.FunctionDef)}
        for name, node in nodes():
            if isinstance(node, ast.Call) and isinstance(node.func, ast.Attribute):
                self.assertIn(node.func.attr, METHODS | own, name)

    def test_walked_at_once(self):
        for name, tree in trees():
            for call, around in calls_within(tree):
                if called(call) in WALKED or called(call) in ("items", "keys", "values"):
                    told = f"{name}: {ast.unparse(around)}"
                    if isinstance(around, (ast.For, ast.comprehension)):
                        self.assertIs(around.iter, call, told)
                    else:
                        self.assertIsInstance(around, ast.Call, told)
                        self.assertIn(called(around), WALKERS, told)

    def test_what_a_loop_walks_is_not_changed_in_it(self):
        for name, node in nodes():
            if isinstance(node, ast.For):
                walked = {ast.unparse(part) for part in ast.walk(node.iter) if isinstance(part, (ast.Name, ast.Attribute))}
                for inner in [each for row in node.body for each in ast.walk(row)]:
                    if isinstance(inner, ast.Call) and called(inner) in CHANGES:
                        self.assertNotIn(ast.unparse(inner.func.value), walked, f"{name}: {ast.unparse(inner)}")
                    if isinstance(inner, ast.Subscript) and isinstance(inner.ctx, ast.Store):
                        self.assertNotIn(ast.unparse(inner.value), walked, f"{name}: {ast.unparse(inner)}")

    def test_sets_are_asked_on_the_spot(self):
        for name, tree in trees():
            for call, around in calls_within(tree):
                if called(call) in ("set", "frozenset"):
                    told = f"{name}: {ast.unparse(around)}"
                    asked = isinstance(around, ast.Call) and called(around) in ("sorted", "len")
                    self.assertTrue(asked or isinstance(around, ast.Compare), told)

    def test_no_name_is_a_method_and_a_value(self):
        methods = set()
        kept = set()
        for name, node in nodes():
            if isinstance(node, ast.ClassDef):
                methods |= {inner.name for inner in node.body if isinstance(inner, ast.FunctionDef)}
            if isinstance(node, ast.Attribute) and isinstance(node.ctx, ast.Store):
                self.assertIsInstance(node.value, ast.Name, f"{name}: {ast.unparse(node)}")
                kept.add(node.attr)
        self.assertEqual(methods & kept, set())
        taken = set(dir(str) + dir(int) + dir(list) + dir(dict) + dir(set) + dir(bytes) + dir(tuple))
        self.assertEqual((methods | kept) & taken - {"__init__"}, set())

    def test_no_power_but_a_written_one(self):
        for name, node in nodes():
            if isinstance(node, (ast.BinOp, ast.AugAssign)) and isinstance(node.op, ast.Pow):
                self.assertIsInstance(node.right, ast.Constant, name)

    def test_keywords(self):
        let_by = {"sorted": {"key", "reverse"}, "min": {"key", "default"}, "max": {"key", "default"}, "sum": {"start"}}
        for name, node in nodes():
            if isinstance(node, ast.Call):
                used = {keyword.arg for keyword in node.keywords}
                self.assertLessEqual(used, let_by.get(called(node), set()), f"{name}: {ast.unparse(node)}")

    def test_python_errors_are_not_taken_wide(self):
        for name, node in nodes():
            if isinstance(node, ast.ExceptHandler):
                self.assertIsNotNone(node.type, name)
                self.assertNotIn(ast.unparse(node.type), ("Exception", "TypeError"), name)


if __name__ == "__main__":
    unittest.main()
