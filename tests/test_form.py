"""The plainest rules of the language that the package keeps to; what needs judgement is not looked at here."""

import ast
import builtins
import pathlib
import re
import unittest

FOLDER = pathlib.Path(__file__).resolve().parent.parent / "sandline"
BARRED_NODES = (
    ast.With, ast.Match, ast.Delete, ast.Global, ast.Nonlocal, ast.Assert, ast.Yield, ast.YieldFrom, ast.AsyncFunctionDef,
    ast.Await, ast.SetComp, ast.DictComp, ast.GeneratorExp, ast.NamedExpr, ast.Starred, ast.Div, ast.Import,
)
BARRED_WORDS = (
    "type", "typing", "typing_extensions", "enum", "Enum", "IntEnum", "StrEnum", "Flag", "IntFlag", "Generic",
    "Protocol", "ABC", "ABCMeta", "namedtuple", "NamedTuple", "TypedDict", "TYPE_CHECKING", "abstractmethod",
)
OWN_NAMES_OF_PYTHON = (
    "len", "range", "enumerate", "zip", "min", "max", "sum", "abs", "sorted", "reversed", "int", "str", "bool", "list",
    "tuple", "dict", "set", "isinstance", "ord", "repr", "any", "all", "divmod", "ValueError", "KeyError", "IndexError",
)
OWN_METHODS_OF_PYTHON = (
    "append", "clear", "copy", "count", "endswith", "extend", "find", "get", "index", "insert", "isalnum", "isalpha",
    "isdigit", "islower", "isspace", "isupper", "items", "join", "keys", "ljust", "lower", "lstrip", "partition", "pop",
    "remove", "replace", "reverse", "rfind", "rjust", "rpartition", "rsplit", "rstrip", "setdefault", "split",
    "splitlines", "startswith", "strip", "update", "upper", "values", "zfill", "bit_length",
)


def sources():
    for path in sorted(FOLDER.glob("*.py")):
        yield path.name, path.read_text(encoding="utf-8")


class Form(unittest.TestCase):
    def test_nothing_but_plain_files(self):
        for path in FOLDER.iterdir():
            if path.name != "__pycache__":
                self.assertRegex(path.name, r"\A(__init__|__main__|[a-z][a-z0-9_]*)\.py\Z")

    def test_signs_and_lengths(self):
        for name, text in sources():
            with self.subTest(name=name):
                self.assertRegex(text, r"\A[ -~\n]*\Z")
                self.assertLessEqual(len(text.splitlines()), 400)
                self.assertLessEqual(max(len(row) for row in text.splitlines()), 120)

    def test_words(self):
        for name, text in sources():
            with self.subTest(name=name):
                self.assertEqual(set(re.findall(r"\w+", text)) & set(BARRED_WORDS), set())

    def test_statements(self):
        for name, text in sources():
            for node in ast.walk(ast.parse(text)):
                with self.subTest(name=name, row=getattr(node, "lineno", 0)):
                    self.assertNotIsInstance(node, BARRED_NODES)
                    if isinstance(node, ast.ImportFrom):
                        self.assertTrue(node.module.startswith("sandline."))
                    if isinstance(node, (ast.FunctionDef, ast.ClassDef)):
                        self.assertEqual(node.decorator_list, [])
                    if isinstance(node, ast.FunctionDef):
                        self.assertLessEqual(node.end_lineno - node.lineno + 1, 40)
                    if isinstance(node, ast.Constant):
                        self.assertNotIsInstance(node.value, (float, bytes))
                        self.assertNotIn("%", str(node.value))

    def test_names(self):
        for name, text in sources():
            for node in ast.walk(ast.parse(text)):
                if isinstance(node, ast.Name):
                    with self.subTest(name=name, row=node.lineno):
                        self.assertRegex(node.id, r"\A[A-Za-z][A-Za-z0-9_]*\Z")
                        if node.id in dir(builtins):
                            self.assertIn(node.id, OWN_NAMES_OF_PYTHON)
                            self.assertIsInstance(node.ctx, ast.Load)

    def test_methods(self):
        trees = {name: ast.parse(text) for name, text in sources()}
        own = [
            part.name for tree in trees.values() for node in tree.body if isinstance(node, ast.ClassDef)
            for part in node.body if isinstance(part, ast.FunctionDef)
        ]
        for name, tree in trees.items():
            for node in ast.walk(tree):
                if isinstance(node, ast.Call) and isinstance(node.func, ast.Attribute):
                    with self.subTest(name=name, row=node.lineno):
                        self.assertIn(node.func.attr, own + list(OWN_METHODS_OF_PYTHON))

    def test_no_two_files_draw_from_one_another(self):
        drawn = {}
        for name, text in sources():
            found = [node for node in ast.walk(ast.parse(text)) if isinstance(node, ast.ImportFrom)]
            drawn[name] = {node.module.removeprefix("sandline.") + ".py" for node in found}
        while drawn:
            free = [name for name in drawn if not drawn[name] & set(drawn)]
            self.assertNotEqual(free, [], drawn)
            for name in free:
                drawn.pop(name)


if __name__ == "__main__":
    unittest.main()
