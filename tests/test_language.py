"""The package's files keep to the part of Python that the program is written in."""

import ast
import re
import unittest
from pathlib import Path

PACKAGE = Path(__file__).resolve().parent.parent / "zonemarket"
FILES = sorted(path for path in PACKAGE.rglob("*") if path.is_file() and "__pycache__" not in path.parts)

STATEMENTS = (ast.Assign, ast.AugAssign, ast.If, ast.While, ast.For, ast.Return, ast.Break, ast.Continue, ast.Pass,
              ast.Raise, ast.Try, ast.Expr, ast.FunctionDef, ast.ClassDef, ast.ImportFrom)
EXPRESSIONS = (ast.Constant, ast.List, ast.Tuple, ast.Dict, ast.BinOp, ast.UnaryOp, ast.Compare, ast.BoolOp, ast.IfExp,
               ast.Call, ast.Attribute, ast.Subscript, ast.Slice, ast.ListComp, ast.JoinedStr, ast.FormattedValue,
               ast.Name, ast.Lambda)
BUILT_IN = """len range enumerate zip min max sum abs sorted reversed int str bool list tuple dict set frozenset
              isinstance ord repr any all divmod""".split()
BUILT_IN_METHODS = """append clear copy count endswith extend find get index insert items join keys pop remove replace
                      reverse setdefault split startswith strip update values bit_length""".split()
WALKED = ("zip", "enumerate", "reversed", "range")
WALKERS = ("list", "tuple", "dict", "sorted", "sum", "any", "all", "enumerate", "zip", "min", "max")
KEYWORDS = {"sorted": ("key", "reverse"), "min": ("key", "default"), "max": ("key", "default"), "sum": ("start",),
            "enumerate": ("start",), "zip": ("strict",)}
NAMES_NOT_USED = """register mro elements open input version_info with_traceback add_note attrgetter breakpoint builtins
                    compile copyright credits delattr dir eval exec exit gc getattr globals hasattr help id importlib
                    license locals methodcaller os quit setattr super type vars sys""".split()
WORDS_NOT_USED = re.compile(r"\b(type|typing|typing_extensions|enum|Enum|IntEnum|StrEnum|Flag|IntFlag|Generic|Protocol"
                            r"|ABC|ABCMeta|namedtuple|NamedTuple|TypedDict|TYPE_CHECKING|abstractmethod)\b"
                            r"|dataclass|overload|contextmanager")


def bound_names(tree):
    """Every name that the file binds: functions, classes, imports, parameters and locals."""
    for node in ast.walk(tree):
        if isinstance(node, (ast.FunctionDef, ast.ClassDef)):
            yield node.name
        elif isinstance(node, ast.arg):
            yield node.arg
        elif isinstance(node, ast.alias):
            yield node.asname or node.name
        elif isinstance(node, ast.Name) and isinstance(node.ctx, ast.Store):
            yield node.id


def is_plain(node, functions):
    if isinstance(node, ast.UnaryOp) and isinstance(node.op, ast.USub):
        node = node.operand
    if isinstance(node, ast.Dict):
        return all(is_plain(part, functions) for part in node.keys + node.values)
    if isinstance(node, (ast.List, ast.Tuple)):
        return all(is_plain(part, functions) for part in node.elts)
    return isinstance(node, ast.Constant) or isinstance(node, ast.Name) and node.id in functions


class LanguageTest(unittest.TestCase):
    def each_file(self):
        self.assertTrue(FILES)
        for path in FILES:
            text = path.read_bytes().decode("ascii")
            with self.subTest(path.name):
                yield path, text, ast.parse(text)

    def test_names_sizes_and_signs_of_files(self):
        for path, text, _ in self.each_file():
            self.assertRegex(path.name, r"^(__init__|[a-z][a-z0-9_]*)\.py$")
            self.assertRegex(text, r"\A[ -~\n]*\Z")
            self.assertLessEqual(text.count("\n"), 400)
            self.assertLessEqual(max(map(len, text.split("\n"))), 120)
            self.assertIsNone(WORDS_NOT_USED.search(text))

    def test_top_of_each_file(self):
        for _, _, tree in self.each_file():
            functions = []
            self.assertIsNotNone(ast.get_docstring(tree))
            for node in tree.body[1:]:
                if isinstance(node, ast.FunctionDef):
                    functions.append(node.name)
                elif isinstance(node, ast.Assign):
                    self.assertTrue(is_plain(node.value, functions), ast.unparse(node))
                else:
                    self.assertIsInstance(node, (ast.ImportFrom, ast.ClassDef))

    def test_statements_and_expressions(self):
        for _, _, tree in self.each_file():
            for node in ast.walk(tree):
                if isinstance(node, ast.stmt):
                    self.assertIsInstance(node, STATEMENTS)
                if isinstance(node, ast.expr):
                    self.assertIsInstance(node, EXPRESSIONS, ast.unparse(node))
                if isinstance(node, ast.Expr) and node not in tree.body[:1]:
                    self.assertIsInstance(node.value, ast.Call)
                if isinstance(node, ast.Assign):
                    self.assertEqual(len(node.targets), 1)
                if isinstance(node, (ast.For, ast.While)):
                    self.assertEqual(node.orelse, [])
                if isinstance(node, ast.ListComp):
                    self.assertEqual(len(node.generators), 1)
                    self.assertLessEqual(len(node.generators[0].ifs), 1)
                if isinstance(node, ast.BinOp):
                    self.assertNotIsInstance(node.op, (ast.Div, ast.Pow, ast.MatMult))
                if isinstance(node, ast.Constant):
                    self.assertIsInstance(node.value, (int, str, type(None)))

    def test_functions_and_classes(self):
        for _, _, tree in self.each_file():
            for node in ast.walk(tree):
                if isinstance(node, (ast.FunctionDef, ast.ClassDef)):
                    self.assertEqual(node.decorator_list, [])
                if isinstance(node, ast.FunctionDef):
                    self.assertLessEqual(node.end_lineno - node.lineno + 1, 40, node.name)
                    self.assertIsNone(node.args.vararg or node.args.kwarg)
                    self.assertEqual(node.args.kwonlyargs + node.args.posonlyargs, [])

    def test_annotations_keywords_and_is(self):
        for _, _, tree in self.each_file():
            for node in ast.walk(tree):
                if isinstance(node, ast.FunctionDef):
                    self.assertIsNone(node.returns)
                if isinstance(node, ast.arg):
                    self.assertIsNone(node.annotation)
                if isinstance(node, ast.Compare) and any(isinstance(op, (ast.Is, ast.IsNot)) for op in node.ops):
                    self.assertTrue(all(isinstance(part, ast.Constant) for part in node.comparators))
                if isinstance(node, ast.Call) and node.keywords:
                    self.assertIsInstance(node.func, ast.Name)
                    self.assertLessEqual({part.arg for part in node.keywords}, set(KEYWORDS.get(node.func.id, ())))

    def test_sets_are_asked_on_the_spot(self):
        for _, _, tree in self.each_file():
            on_the_spot = [part for node in ast.walk(tree) if isinstance(node, ast.Call)
                           and isinstance(node.func, ast.Name) and node.func.id in ("sorted", "len")
                           for part in node.args]
            for node in ast.walk(tree):
                self.assertNotIsInstance(node, ast.Set)
                if isinstance(node, ast.Call) and isinstance(node.func, ast.Name) and node.func.id == "set":
                    self.assertIn(node, on_the_spot, ast.unparse(node))

    def test_lists_and_dicts_of_the_top_are_only_read(self):
        for _, _, tree in self.each_file():
            kept = {node.targets[0].id for node in tree.body
                    if isinstance(node, ast.Assign) and isinstance(node.value, (ast.List, ast.Dict))}
            read = []
            for node in ast.walk(tree):
                if isinstance(node, ast.Subscript) and isinstance(node.ctx, ast.Load):
                    read.append(node.value)
                if isinstance(node, ast.Attribute) and node.attr == "get":
                    read.append(node.value)
            for node in ast.walk(tree):
                if isinstance(node, ast.Name) and isinstance(node.ctx, ast.Load) and node.id in kept:
                    self.assertIn(node, read, node.id)

    def test_imports(self):
        drawn = {}
        for path, _, tree in self.each_file():
            rows = [node for node in ast.walk(tree) if isinstance(node, ast.ImportFrom)]
            drawn[f"zonemarket.{path.stem}"] = [node.module for node in rows]
            for node in rows:
                self.assertEqual(node.level, 0)
                self.assertIn(PACKAGE / (node.module.removeprefix("zonemarket.") + ".py"), FILES)
        while drawn:
            free = [name for name in drawn if not set(drawn[name]) & set(drawn)]
            self.assertTrue(free, f"these draw from one another: {sorted(drawn)}")
            drawn = {name: modules for name, modules in drawn.items() if name not in free}

    def test_names(self):
        for _, _, tree in self.each_file():
            bound = set(bound_names(tree))
            imports = {node.name for node in ast.walk(tree) if isinstance(node, ast.alias)}
            locals_bound = {name for node in tree.body if isinstance(node, (ast.FunctionDef, ast.ClassDef))
                            for part in node.body for name in bound_names(part)}
            self.assertEqual(locals_bound & imports, set())
            for name in bound - {"__init__"}:
                self.assertRegex(name, r"^[A-Za-z][A-Za-z0-9_]*$")
                self.assertNotIn(name, dir(__builtins__) if not isinstance(__builtins__, dict) else __builtins__)
            for node in ast.walk(tree):
                if isinstance(node, ast.Name):
                    self.assertIn(node.id, bound | set(BUILT_IN))
                    self.assertNotIn(node.id, NAMES_NOT_USED)

    def test_methods_and_values_of_objects(self):
        methods, values, called = set(), set(), set()
        for _, _, tree in self.each_file():
            for node in ast.walk(tree):
                if isinstance(node, ast.ClassDef):
                    methods |= {part.name for part in node.body}
                if isinstance(node, ast.Attribute) and isinstance(node.ctx, ast.Store):
                    values.add(node.attr)
                if isinstance(node, ast.Call) and isinstance(node.func, ast.Attribute):
                    called.add(node.func.attr)
        pythons = {name for kind in (str, int, list, tuple, dict, set, bytes) for name in dir(kind)} - {"__init__"}
        self.assertEqual(methods & values, set())
        self.assertEqual((methods | values) & pythons, set())
        self.assertEqual(called - methods - set(BUILT_IN_METHODS), set())

    def test_what_is_walked_is_walked_on_the_spot(self):
        for _, _, tree in self.each_file():
            on_the_spot = []
            for node in ast.walk(tree):
                if isinstance(node, (ast.For, ast.comprehension)):
                    on_the_spot.append(node.iter)
                if isinstance(node, ast.Call) and isinstance(node.func, ast.Name) and node.func.id in WALKERS:
                    on_the_spot += node.args[:1]
            for node in ast.walk(tree):
                if isinstance(node, ast.Call) and isinstance(node.func, ast.Name) and node.func.id in WALKED:
                    self.assertIn(node, on_the_spot, ast.unparse(node))


if __name__ == "__main__":
    unittest.main()
