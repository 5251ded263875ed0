"""The rules of the language that can be seen in the package's files one by one."""

import ast
import pathlib
import re
import unittest

PACKAGE = pathlib.Path(__file__).resolve().parent.parent / "celltexts"
FILES = sorted(PACKAGE.rglob("*.py"))

NODES = (
    "Module Import ImportFrom alias FunctionDef arguments arg ClassDef Assign AugAssign If While For Return Break"
    " Continue Pass Raise Try ExceptHandler Expr Constant List Tuple Dict BinOp UnaryOp BoolOp Compare IfExp Call"
    " keyword Attribute Subscript Slice ListComp comprehension Name Load Store Lambda Add Sub Mult FloorDiv Mod Pow"
    " BitAnd BitOr BitXor LShift RShift Invert Not USub UAdd And Or Eq NotEq Lt LtE Gt GtE Is IsNot In NotIn"
).split()
BUILT_IN = (
    "len range enumerate zip min max sum abs sorted reversed int str bool list tuple dict set frozenset isinstance ord"
    " repr any all divmod Exception ValueError TypeError KeyError IndexError LookupError ZeroDivisionError"
    " ArithmeticError OverflowError RuntimeError NotImplementedError AttributeError StopIteration"
).split()
METHODS = (
    "append clear copy count endswith extend find get index insert isalnum isalpha isdigit islower isspace isupper items"
    " join keys ljust lower lstrip partition pop remove replace reverse rfind rjust rpartition rsplit rstrip setdefault"
    " split splitlines startswith strip update upper values zfill bit_length"
).split()
BANNED_WORDS = (
    "type typing typing_extensions enum Enum IntEnum StrEnum Flag IntFlag Generic Protocol ABC ABCMeta namedtuple"
    " NamedTuple TypedDict TYPE_CHECKING abstractmethod"
).split()
BANNED_NAMES = "register mro elements open input version_info with_traceback add_note format format_map".split()


def bound_names(tree):
    found = []
    for node in ast.walk(tree):
        if isinstance(node, ast.Name) and isinstance(node.ctx, ast.Store):
            found.append(node.id)
        elif isinstance(node, (ast.FunctionDef, ast.ClassDef)):
            found.append(node.name)
        elif isinstance(node, ast.arg):
            found.append(node.arg)
        elif isinstance(node, ast.alias):
            found.append(node.asname or node.name)
        elif isinstance(node, ast.ExceptHandler) and node.name:
            found.append(node.name)
    return found


class Rules(unittest.TestCase):
    def each(self):
        for path in FILES:
            text = path.read_text(encoding="utf-8")
            with self.subTest(file=path.name):
                yield text, ast.parse(text)

    def test_files(self):
        self.assertEqual([path.name for path in PACKAGE.iterdir() if path.suffix != ".py"
                          and path.name != "__pycache__"], [])
        for text, tree in self.each():
            self.assertTrue(all(sign == "\n" or " " <= sign <= "~" for sign in text))
            rows = text.split("\n")
            self.assertLessEqual(len(rows), 400)
            self.assertLessEqual(max([len(row) for row in rows]), 120)

    def test_functions_are_short(self):
        for text, tree in self.each():
            for node in ast.walk(tree):
                if isinstance(node, ast.FunctionDef):
                    self.assertLessEqual(node.end_lineno - node.lineno + 1, 40)
                    self.assertEqual(node.decorator_list, [])

    def test_only_these_forms(self):
        for text, tree in self.each():
            for node in ast.walk(tree):
                self.assertIn(node.__class__.__name__, NODES)
                if isinstance(node, ast.Assign):
                    self.assertEqual(len(node.targets), 1)
                if isinstance(node, ast.Constant):
                    self.assertIn(node.value.__class__.__name__, ("int", "str", "bool", "NoneType"))
                    self.assertNotIn("%", str(node.value))
                if isinstance(node, (ast.While, ast.For)):
                    self.assertEqual(node.orelse, [])

    def test_imports(self):
        for text, tree in self.each():
            for node in ast.walk(tree):
                self.assertNotIsInstance(node, ast.Import)
                if isinstance(node, ast.ImportFrom):
                    self.assertEqual(node.level, 0)
                    self.assertTrue(node.module.startswith("celltexts."))

    def test_names(self):
        methods = []
        for text, tree in self.each():
            for node in ast.walk(tree):
                if isinstance(node, ast.ClassDef):
                    methods.extend([part.name for part in node.body])
        for text, tree in self.each():
            bound = bound_names(tree)
            for name in bound:
                self.assertTrue(name == "__init__" or not name.startswith("_"), name)
                self.assertNotIn(name, dir(__builtins__) if not isinstance(__builtins__, dict) else __builtins__)
                self.assertNotIn(name, BANNED_NAMES)
            for node in ast.walk(tree):
                if isinstance(node, ast.Name) and isinstance(node.ctx, ast.Load):
                    self.assertIn(node.id, bound + BUILT_IN)
                if isinstance(node, ast.Call) and isinstance(node.func, ast.Attribute):
                    self.assertIn(node.func.attr, methods + METHODS)
                if isinstance(node, ast.Attribute):
                    self.assertNotIn(node.attr, BANNED_NAMES)

    def test_words_that_stand_nowhere(self):
        for text, tree in self.each():
            words = re.findall(r"[A-Za-z0-9_]+", text)
            self.assertEqual([word for word in words if word in BANNED_WORDS], [])
            self.assertIsNone(re.search("dataclass|overload|contextmanager", text))


if __name__ == "__main__":
    unittest.main()
