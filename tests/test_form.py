"""The form of the program: the rules of the language paper that a reading of the files can show."""
import ast
import builtins
import re
import unittest
from pathlib import Path

FOLDER = Path(__file__).resolve().parent.parent / "fourcreases"
FILES = sorted(FOLDER.glob("*.py"))
LIBRARY = {
    "math": {"gcd", "lcm", "isqrt", "comb", "perm", "factorial"},
    "heapq": {"heappush", "heappop", "heapify", "heapreplace", "heappushpop"},
    "itertools": {
        "product", "combinations", "permutations", "chain", "accumulate", "pairwise", "islice", "zip_longest",
    },
    "collections": {"defaultdict", "deque"},
}
BUILTINS = set(
    "len range enumerate zip min max sum abs sorted reversed int str bool bytes list tuple dict set frozenset "
    "isinstance ord repr any all divmod pow getattr hasattr setattr iter next map Exception ValueError TypeError "
    "KeyError IndexError LookupError ZeroDivisionError ArithmeticError OverflowError RuntimeError NotImplemented "
    "NotImplementedError AttributeError StopIteration super property staticmethod classmethod type".split()
)
NOWHERE = set("register mro elements open input law version_info with_traceback add_note".split())
NO_WORDS = (
    "type typing typing_extensions enum Enum IntEnum StrEnum Flag IntFlag Generic Protocol ABC ABCMeta namedtuple "
    "NamedTuple TypedDict TYPE_CHECKING abstractmethod"
).split()
METHODS = set(
    "append clear copy count endswith extend find get index insert isalnum isalpha isdigit islower isspace isupper "
    "items join keys ljust lower lstrip partition pop remove replace reverse rfind rjust rpartition rsplit rstrip "
    "setdefault split splitlines startswith strip update upper values zfill bit_length add discard".split()
)
DOUBLE = {"__init__", "__eq__", "__repr__", "__str__", "__len__"}
STATEMENTS = (
    ast.Assign, ast.AugAssign, ast.If, ast.While, ast.For, ast.Return, ast.Break, ast.Continue, ast.Pass, ast.Raise,
    ast.Expr, ast.FunctionDef, ast.ClassDef, ast.ImportFrom, ast.Try, ast.ExceptHandler, ast.Delete, ast.Assert,
)


def trees():
    return {path.name: ast.parse(path.read_text()) for path in FILES}


def nodes(kind):
    for name, tree in trees().items():
        for node in ast.walk(tree):
            if isinstance(node, kind):
                yield name, node


def plain(node):
    """Tell whether a value at module level is written out."""
    if isinstance(node, ast.UnaryOp) and isinstance(node.op, ast.USub):
        return plain(node.operand)
    if isinstance(node, (ast.Tuple, ast.List)):
        return all(plain(item) for item in node.elts)
    if isinstance(node, ast.Dict):
        return all(plain(item) for item in [*node.keys, *node.values])
    return isinstance(node, ast.Constant)


def bound_names(function):
    """The names that a function binds, those of functions within it, too."""
    found = set()
    for node in ast.walk(function):
        if isinstance(node, ast.arg):
            found.add(node.arg)
        elif isinstance(node, ast.Name) and isinstance(node.ctx, ast.Store):
            found.add(node.id)
        elif isinstance(node, ast.FunctionDef) and node is not function:
            found.add(node.name)
    return found


class FilesTest(unittest.TestCase):
    def test_folder_holds_python_files_alone(self):
        names = [path.name for path in FOLDER.iterdir() if path.name != "__pycache__"]
        self.assertEqual(sorted(names), [path.name for path in FILES])
        for name in names:
            self.assertRegex(name, r"^[a-z0-9_]+\.py$")

    def test_sizes_and_characters(self):
        for path in FILES:
            rows = path.read_text().split("\n")
            self.assertLessEqual(len(rows), 400, path.name)
            for number, row in enumerate(rows, 1):
                self.assertLessEqual(len(row), 120, (path.name, number))
                self.assertRegex(row, r"^[ -~]*$", (path.name, number))
                self.assertEqual(row.rstrip(), row, (path.name, number))

    def test_functions_are_short(self):
        for name, node in nodes(ast.FunctionDef):
            self.assertLessEqual(node.end_lineno - node.lineno + 1, 40, (name, node.name))

    def test_words(self):
        for name, tree in trees().items():
            for node in ast.walk(tree):
                for field in ("id", "arg", "attr", "name"):
                    word = getattr(node, field, None)
                    if isinstance(word, str):
                        self.assertNotIn(word, NOWHERE, name)
                        self.assertNotIn(word, NO_WORDS, name)
                        self.assertFalse(word.startswith(("_wall", "_pe_", "_law_", "_sre", "_cm_")), word)


class ImportsTest(unittest.TestCase):
    def test_names_of_the_very_files(self):
        defined = {
            name[:-3]: {node.name for node in tree.body if isinstance(node, (ast.FunctionDef, ast.ClassDef))}
            | {node.targets[0].id for node in tree.body if isinstance(node, ast.Assign)}
            for name, tree in trees().items()
        }
        for name, node in nodes(ast.ImportFrom):
            names = {alias.name for alias in node.names}
            self.assertEqual({alias.asname for alias in node.names}, {None}, name)
            if node.module in LIBRARY:
                self.assertLessEqual(names, LIBRARY[node.module], name)
            else:
                package, module = node.module.split(".")
                self.assertEqual(package, "fourcreases")
                self.assertLessEqual(names, defined[module], name)
        self.assertEqual(list(nodes(ast.Import)), [])

    def test_all_are_used(self):
        for name, tree in trees().items():
            used = {node.id for node in ast.walk(tree) if isinstance(node, ast.Name)}
            for node in tree.body:
                if isinstance(node, ast.ImportFrom):
                    for alias in node.names:
                        self.assertIn(alias.name, used, name)

    def test_no_circles(self):
        ahead = {
            name[:-3]: {
                node.module.split(".")[1] for node in tree.body
                if isinstance(node, ast.ImportFrom) and node.module.startswith("fourcreases")
            }
            for name, tree in trees().items()
        }
        while ahead:
            free = [name for name in ahead if not ahead[name] & set(ahead)]
            self.assertNotEqual(free, [], ahead)
            for name in free:
                del ahead[name]


class CodeTest(unittest.TestCase):
    def test_module_level(self):
        for name, tree in trees().items():
            for node in tree.body:
                if isinstance(node, ast.Assign):
                    self.assertTrue(len(node.targets) == 1 and plain(node.value), (name, node.lineno))
                elif isinstance(node, ast.Expr):
                    self.assertIsInstance(node.value, ast.Constant)
                else:
                    self.assertIsInstance(node, (ast.FunctionDef, ast.ClassDef, ast.ImportFrom), name)

    def test_statements(self):
        for name, node in nodes(ast.stmt):
            self.assertIsInstance(node, STATEMENTS, (name, node.lineno))

    def test_no_decorators_and_annotations(self):
        for name, node in nodes((ast.FunctionDef, ast.ClassDef)):
            self.assertEqual(node.decorator_list, [], (name, node.name))
            if isinstance(node, ast.FunctionDef):
                self.assertIsNone(node.returns)
                if node.name.startswith("__"):
                    self.assertIn(node.name, DOUBLE)

    def test_expressions(self):
        for name, node in nodes((ast.GeneratorExp, ast.Yield, ast.YieldFrom, ast.Set, ast.SetComp, ast.NamedExpr)):
            self.fail((name, node.lineno, type(node).__name__))
        for name, node in nodes(ast.BinOp):
            self.assertNotIsInstance(node.op, (ast.Div, ast.MatMult), (name, node.lineno))
        for name, node in nodes(ast.Constant):
            self.assertIsInstance(node.value, (int, str, bool, type(None)), (name, node.lineno))
            if isinstance(node.value, str) and not node.value.endswith("."):
                self.assertNotIn("%", node.value)

    def test_exponents_are_literal(self):
        for name, node in nodes(ast.BinOp):
            if isinstance(node.op, ast.Pow):
                self.assertIsInstance(node.right, ast.Constant, (name, node.lineno))

    def test_stars(self):
        """No star in an index; behind one in a call stand only names."""
        for name, node in nodes(ast.Subscript):
            items = node.slice.elts if isinstance(node.slice, ast.Tuple) else []
            self.assertFalse([item for item in items if isinstance(item, ast.Starred)], (name, node.lineno))
        for name, node in nodes(ast.Call):
            for item in node.args:
                if isinstance(item, ast.Starred):
                    self.assertIsInstance(item.value, ast.Name, (name, node.lineno))
            self.assertFalse([word for word in node.keywords if word.arg is None], (name, node.lineno))

    def test_finally_puts_things_back_alone(self):
        for name, node in nodes(ast.Try):
            for row in node.finalbody:
                self.assertIsInstance(row, ast.Assign, (name, node.lineno))
                for part in ast.walk(row):
                    self.assertIsInstance(
                        part, (ast.Assign, ast.Tuple, ast.Name, ast.Attribute, ast.expr_context), (name, node.lineno)
                    )

    def test_is_takes_none_true_and_false(self):
        for name, node in nodes(ast.Compare):
            for operator, right in zip(node.ops, node.comparators):
                if isinstance(operator, (ast.Is, ast.IsNot)):
                    self.assertIsInstance(right, ast.Constant, (name, node.lineno))

    def test_builtins(self):
        every = set(dir(builtins))
        for name, node in nodes(ast.Name):
            if node.id in every:
                self.assertIsInstance(node.ctx, ast.Load, (name, node.lineno))
                self.assertIn(node.id, BUILTINS - {"type"}, (name, node.lineno))
        for name, node in nodes(ast.FunctionDef):
            self.assertEqual(bound_names(node) & every, set(), (name, node.name))
            self.assertNotIn(node.name, every)

    def test_no_local_name_is_an_import_or_a_class(self):
        for name, tree in trees().items():
            taken = {
                alias.name for node in tree.body if isinstance(node, ast.ImportFrom) for alias in node.names
            } | {node.name for node in tree.body if isinstance(node, ast.ClassDef)}
            for node in ast.walk(tree):
                if isinstance(node, ast.FunctionDef):
                    self.assertEqual(bound_names(node) & taken, set(), (name, node.name))

    def test_methods(self):
        own = {node.name for _, node in nodes(ast.FunctionDef)}
        for name, node in nodes(ast.Call):
            if isinstance(node.func, ast.Attribute):
                self.assertIn(node.func.attr, METHODS | own, (name, node.lineno))
                self.assertEqual(node.keywords, [], (name, node.lineno))

    def test_attributes_are_assigned_somewhere(self):
        stored = {node.attr for _, node in nodes(ast.Attribute) if isinstance(node.ctx, ast.Store)}
        own = {node.name for _, node in nodes(ast.FunctionDef)}
        for name, node in nodes(ast.Attribute):
            if isinstance(node.ctx, ast.Load):
                self.assertIn(node.attr, stored | own | METHODS, (name, node.lineno))
        self.assertEqual(stored & METHODS, set())

    def test_loops_do_not_change_what_they_go_over(self):
        changing = {"append", "clear", "extend", "insert", "pop", "remove", "reverse", "setdefault", "update"}
        for name, loop in nodes(ast.For):
            over = {ast.dump(node) for node in ast.walk(loop.iter) if isinstance(node, (ast.Name, ast.Attribute))}
            call = getattr(getattr(loop.iter, "func", None), "id", "")
            copied = call in ("list", "sorted", "range")
            for node in ast.walk(ast.Module(loop.body, [])):
                if isinstance(node, ast.Call) and isinstance(node.func, ast.Attribute) and node.func.attr in changing:
                    self.assertTrue(copied or ast.dump(node.func.value) not in over, (name, node.lineno))

    def test_every_function_has_a_docstring(self):
        for name, node in nodes((ast.FunctionDef, ast.ClassDef)):
            if isinstance(node, ast.FunctionDef) and node.name in {*DOUBLE, "holds"}:
                continue
            self.assertIsNotNone(ast.get_docstring(node), (name, node.name))

    def test_every_function_is_used(self):
        text = "\n".join(path.read_text() for path in FILES)
        document = (Path(__file__).resolve().parent / "test_interface.py").read_text()
        for name, node in nodes(ast.FunctionDef):
            if node.name not in DOUBLE and f'"{node.name}"' not in document:
                self.assertGreater(len(re.findall(rf"\b{node.name}\b", text)), 1, (name, node.name))


if __name__ == "__main__":
    unittest.main()
