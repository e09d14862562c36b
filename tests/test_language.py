"""The rules of the language that the package is written in, as far as they are plain to see."""

import ast
import builtins
import pathlib
import re
import unittest
import warnings

FOLDER = pathlib.Path(__file__).resolve().parent.parent / "scriptpicks"
FILES = sorted(FOLDER.glob("**/*.py"))
BUILTINS = set(
    "len range enumerate zip min max sum abs sorted reversed int str bool list tuple dict set isinstance ord repr any all "
    "divmod iter next property staticmethod classmethod super Exception ValueError TypeError KeyError IndexError "
    "LookupError ZeroDivisionError ArithmeticError OverflowError RuntimeError NotImplementedError AttributeError "
    "StopIteration NotImplemented".split())
WORDS = re.compile(
    r"\b(type|typing|typing_extensions|enum|Enum|IntEnum|StrEnum|Flag|IntFlag|Generic|Protocol|ABC|ABCMeta|namedtuple"
    r"|NamedTuple|TypedDict|TYPE_CHECKING|abstractmethod)\b|dataclass|overload|contextmanager")
BARRED = set("register mro elements open input law version_info with_traceback add_note".split())
PLAIN_METHODS = re.compile(r"__(init|eq|repr|str|len|enter|exit|call|iter|lt|le|gt|ge|ne|i?add|i?sub|i?mul|i?floordiv"
                           r"|i?mod|i?pow|i?and|i?or|i?xor|i?lshift|i?rshift|neg|pos|invert|abs|bool|contains|getitem"
                           r"|setitem)__$")


def tree_of(file):
    return ast.parse(file.read_text(encoding="utf-8"))


def bound_names(tree):
    """Yield all names that a file gives to something."""
    for node in ast.walk(tree):
        if isinstance(node, (ast.FunctionDef, ast.ClassDef)):
            yield node.name
        if isinstance(node, ast.arg):
            yield node.arg
        if isinstance(node, ast.Name) and not isinstance(node.ctx, ast.Load):
            yield node.id
        if isinstance(node, ast.Attribute) and not isinstance(node.ctx, ast.Load):
            yield node.attr
        if isinstance(node, ast.ExceptHandler) and node.name:
            yield node.name


def top_names(tree):
    """Return the names of the functions, classes and values at a file's module level."""
    names = [node.name for node in tree.body if isinstance(node, (ast.FunctionDef, ast.ClassDef))]
    return names + [node.targets[0].id for node in tree.body if isinstance(node, ast.Assign)]


class FilesTest(unittest.TestCase):
    def test_only_plain_files(self):
        self.assertIn(FOLDER / "__init__.py", FILES)
        for path in FOLDER.glob("**/*"):
            if "__pycache__" not in path.parts:
                self.assertRegex(path.name, r"^([a-z][a-z0-9_]*|__init__)\.py$")

    def test_characters_lines_and_words(self):
        for file in FILES:
            text = file.read_bytes().decode("ascii")
            lines = text.split("\n")
            self.assertLessEqual(len(lines), 400, file)
            for line in lines:
                self.assertLessEqual(len(line), 120, file)
                self.assertTrue(all(" " <= letter <= "~" for letter in line), file)
            self.assertIsNone(WORDS.search(text), file)

    def test_no_warnings(self):
        for file in FILES:
            with warnings.catch_warnings():
                warnings.simplefilter("error")
                compile(file.read_text(encoding="utf-8"), str(file), "exec")


class RulesTest(unittest.TestCase):
    def test_imports(self):
        names = {"scriptpicks." + file.stem: top_names(tree_of(file)) for file in FILES}
        imports = {}
        for file in FILES:
            tree = tree_of(file)
            found = [node for node in ast.walk(tree) if isinstance(node, (ast.Import, ast.ImportFrom))]
            first = 1 if ast.get_docstring(tree) else 0
            self.assertEqual(found, tree.body[first:first + len(found)], file)
            for node in found:
                self.assertIsInstance(node, ast.ImportFrom, file)
                for alias in node.names:
                    self.assertIn(alias.name, names[node.module], file)
            imports["scriptpicks." + file.stem] = [node.module for node in found]
        while imports:
            free = [name for name in imports if not any(other in imports for other in imports[name])]
            self.assertTrue(free, "files import from each other")
            imports = {name: imports[name] for name in imports if name not in free}

    def test_module_level(self):
        for file in FILES:
            tree = tree_of(file)
            for node in tree.body[1 if ast.get_docstring(tree) else 0:]:
                self.assertIsInstance(node, (ast.ImportFrom, ast.FunctionDef, ast.ClassDef, ast.Assign), file)
                if isinstance(node, ast.Assign):
                    self.assertEqual([type(target) for target in node.targets], [ast.Name], file)
            names = top_names(tree)
            self.assertEqual(len(set(names)), len(names), file)

    def test_functions(self):
        for file in FILES:
            for node in ast.walk(tree_of(file)):
                if isinstance(node, ast.FunctionDef):
                    self.assertLessEqual(node.end_lineno - node.lineno + 1, 40, node.name)
                    self.assertEqual(node.args.posonlyargs, [], node.name)

    def test_names(self):
        for file in FILES:
            tree = tree_of(file)
            imported = {alias.name for node in tree.body if isinstance(node, ast.ImportFrom) for alias in node.names}
            for name in bound_names(tree):
                if PLAIN_METHODS.match(name):
                    continue
                self.assertFalse(name.startswith("_"), (file, name))
                self.assertFalse(hasattr(builtins, name), (file, name))
                self.assertNotIn(name, BARRED, file)
                self.assertNotIn(name, imported, file)

    def test_methods_and_attributes_differ(self):
        methods, attributes = set(), set()
        for file in FILES:
            for node in ast.walk(tree_of(file)):
                if isinstance(node, ast.ClassDef):
                    methods |= {part.name for part in node.body if isinstance(part, ast.FunctionDef)}
                if isinstance(node, ast.Attribute) and isinstance(node.ctx, ast.Store):
                    attributes.add(node.attr)
        self.assertEqual(methods & attributes, set())

    def test_builtins(self):
        for file in FILES:
            for node in ast.walk(tree_of(file)):
                if isinstance(node, ast.Name) and hasattr(builtins, node.id):
                    self.assertIn(node.id, BUILTINS, file)

    def test_expressions(self):
        for file in FILES:
            for node in ast.walk(tree_of(file)):
                self.assertNotIsInstance(node, (ast.Global, ast.AsyncFunctionDef, ast.Await, ast.Div), file)
                if isinstance(node, ast.Constant):
                    self.assertNotIsInstance(node.value, (float, complex), file)
                    self.assertTrue(not isinstance(node.value, str) or chr(37) not in node.value, file)
                if isinstance(node, ast.Compare) and any(isinstance(sign, (ast.Is, ast.IsNot)) for sign in node.ops):
                    self.assertTrue(all(isinstance(side, ast.Constant) for side in node.comparators), file)
                if isinstance(node, ast.Call) and isinstance(node.func, ast.Name):
                    if node.func.id in ("any", "all", "sum", "min", "max", "sorted"):
                        self.assertNotIsInstance(node.args[0], ast.GeneratorExp, file)
                    if node.func.id == "reversed":
                        self.assertRegex(ast.unparse(node.args[0]), r"^(list|tuple|sorted|range)\(", file)
                if isinstance(node, ast.Call) and isinstance(node.func, ast.Attribute):
                    self.assertNotEqual(node.func.attr, "sort", file)
