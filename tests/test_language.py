"""The form of the package's files, as far as it can be read off them: files, imports, names, size, signs."""

import ast
import builtins
import pathlib
import re
import unittest

PACKAGE = pathlib.Path(__file__).resolve().parent.parent / "hoopcord"

OWN_OF_PYTHON = set(
    "len range enumerate zip min max sum abs sorted reversed int str bool bytes list tuple dict set frozenset "
    "isinstance ord repr any all divmod Exception ValueError TypeError KeyError IndexError LookupError "
    "ZeroDivisionError ArithmeticError OverflowError RuntimeError NotImplementedError AttributeError "
    "StopIteration".split()
)

WORDS_OUT = (
    "type typing typing_extensions enum Enum IntEnum StrEnum Flag IntFlag Generic Protocol ABC ABCMeta namedtuple "
    "NamedTuple TypedDict TYPE_CHECKING abstractmethod".split()
)

FORMS_OUT = (
    ast.With, ast.Match, ast.Global, ast.Nonlocal, ast.Yield, ast.YieldFrom, ast.GeneratorExp, ast.NamedExpr,
    ast.AsyncFunctionDef, ast.AsyncFor, ast.AsyncWith, ast.Await, ast.Div, ast.Import, ast.AnnAssign,
)


def files():
    return sorted(PACKAGE.rglob("*.py"))


class Language(unittest.TestCase):
    def each_node(self):
        for path in files():
            for node in ast.walk(ast.parse(path.read_text())):
                yield path.name, node

    def test_there_are_files_and_nothing_else(self):
        self.assertIn("__init__.py", [path.name for path in files()])
        for path in PACKAGE.iterdir():
            if path.name != "__pycache__":
                self.assertRegex(path.name, r"^([a-z][a-z0-9_]*|__init__)\.py$")

    def test_size_and_signs(self):
        for path in files():
            text = path.read_text()
            rows = text.split("\n")
            self.assertLessEqual(len(rows), 400, path.name)
            self.assertLessEqual(max(len(row) for row in rows), 120, path.name)
            self.assertRegex(text, r"\A[\n -~]*\Z", path.name)
            for word in WORDS_OUT:
                self.assertIsNone(re.search(rf"\b{word}\b", text), (path.name, word))

    def test_defs_have_at_most_forty_rows(self):
        for name, node in self.each_node():
            if isinstance(node, ast.FunctionDef):
                self.assertLessEqual(node.end_lineno - node.lineno + 1, 40, (name, node.name))
                self.assertEqual(node.decorator_list, [], (name, node.name))
                self.assertIsNone(node.args.vararg, (name, node.name))
                self.assertIsNone(node.args.kwarg, (name, node.name))

    def test_imports_are_of_the_package_alone(self):
        for name, node in self.each_node():
            if isinstance(node, ast.ImportFrom):
                self.assertEqual(node.level, 0, name)
                self.assertRegex(node.module, r"^hoopcord\.[a-z_]+$", name)
                self.assertNotIn("*", [alias.name for alias in node.names], name)

    def test_names(self):
        for name, node in self.each_node():
            if isinstance(node, ast.Name) and isinstance(node.ctx, ast.Load):
                if hasattr(builtins, node.id):
                    self.assertIn(node.id, OWN_OF_PYTHON, name)
            elif isinstance(node, (ast.Name, ast.arg)):
                given = node.id if isinstance(node, ast.Name) else node.arg
                self.assertFalse(hasattr(builtins, given), (name, given))
                self.assertFalse(given.startswith("_"), (name, given))

    def test_forms_that_are_out(self):
        for name, node in self.each_node():
            self.assertNotIsInstance(node, FORMS_OUT, (name, getattr(node, "lineno", 0)))
            if isinstance(node, ast.Constant):
                self.assertNotIsInstance(node.value, (float, complex), name)
            if isinstance(node, (ast.For, ast.While)):
                self.assertEqual(node.orelse, [], name)


if __name__ == "__main__":
    unittest.main()
