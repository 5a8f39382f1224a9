"""The form of the package's files, as far as it can be read off them: files, imports, names, calls, size, signs."""

import ast
import builtins
import pathlib
import re
import unittest

PACKAGE = pathlib.Path(__file__).resolve().parent.parent / "hoopcord"

OWN_OF_PYTHON = set(
    "len range enumerate zip min max sum abs sorted reversed int str bool bytes list tuple dict set frozenset "
    "isinstance ord repr any all divmod Exception ValueError TypeError KeyError IndexError LookupError "
    "ZeroDivisionError ArithmeticError OverflowError RuntimeError NotImplementedError AttributeError "
    "StopIteration".split()
)

WORDS_OUT = (
    "type typing typing_extensions enum Enum IntEnum StrEnum Flag IntFlag Generic Protocol ABC ABCMeta namedtuple "
    "NamedTuple TypedDict TYPE_CHECKING abstractmethod".split()
)

METHODS = set(
    "append clear copy count endswith extend find get index insert isalnum isalpha isdigit islower isspace isupper "
    "items join keys ljust lower lstrip partition pop remove replace reverse rfind rjust rpartition rsplit rstrip "
    "setdefault split splitlines startswith strip update upper values zfill bit_length add discard".split()
)

WALKED_AT_ONCE = {"zip", "enumerate", "reversed", "range"}

FORMS_OUT = (
    ast.With, ast.Match, ast.Global, ast.Nonlocal, ast.Yield, ast.YieldFrom, ast.GeneratorExp, ast.NamedExpr,
    ast.AsyncFunctionDef, ast.AsyncFor, ast.AsyncWith, ast.Await, ast.Div, ast.Import, ast.AnnAssign,
)


def files():
    return sorted(PACKAGE.rglob("*.py"))


class Language(unittest.TestCase):
    def each_node(self):
        for path in files():
            for node in ast.walk(ast.parse(path.read_text())):
                yield path.name, node

    def test_there_are_files_and_nothing_else(self):
        self.assertIn("__init__.py", [path.name for path in files()])
        for path in PACKAGE.iterdir():
            if path.name != "__pycache__":
                self.assertRegex(path.name, r"^([a-z][a-z0-9_]*|__init__)\.py$")

    def test_size_and_signs(self):
        for path in files():
            text = path.read_text()
            rows = text.split("\n")
            self.assertLessEqual(len(rows), 400, path.name)
            self.assertLessEqual(max(len(row) for row in rows), 120, path.name)
            self.assertRegex(text, r"\A[\n -~]*\Z", path.name)
            for word in WORDS_OUT:
                self.assertIsNone(re.search(rf"\b{word}\b", text), (path.name, word))

    def test_defs_have_at_most_forty_rows(self):
        for name, node in self.each_node():
            if isinstance(node, ast.FunctionDef):
                self.assertLessEqual(node.end_lineno - node.lineno + 1, 40, (name, node.name))
                self.assertEqual(node.decorator_list, [], (name, node.name))
                self.assertIsNone(node.args.vararg, (name, node.name))
                self.assertIsNone(node.args.kwarg, (name, node.name))

    def test_imports_are_of_the_package_alone(self):
        for name, node in self.each_node():
            if isinstance(node, ast.ImportFrom):
                self.assertEqual(node.level, 0, name)
                self.assertRegex(node.module, r"^hoopcord\.[a-z_]+$", name)
                self.assertNotIn("*", [alias.name for alias in node.names], name)

    def test_names(self):
        for name, node in self.each_node():
            if isinstance(node, ast.Name) and isinstance(node.ctx, ast.Load):
                if hasattr(builtins, node.id):
                    self.assertIn(node.id, OWN_OF_PYTHON, name)
            elif isinstance(node, (ast.Name, ast.arg)):
                given = node.id if isinstance(node, ast.Name) else node.arg
                self.assertFalse(hasattr(builtins, given), (name, given))
                self.assertFalse(given.startswith("_"), (name, given))

    def test_no_local_is_called_like_an_import_or_a_class_of_its_file(self):
        for path in files():
            nodes = list(ast.walk(ast.parse(path.read_text())))
            drawn = {alias.name for node in nodes if isinstance(node, ast.ImportFrom) for alias in node.names}
            drawn |= {node.name for node in nodes if isinstance(node, ast.ClassDef)}
            given = {node.id for node in nodes if isinstance(node, ast.Name) and isinstance(node.ctx, ast.Store)}
            given |= {node.arg for node in nodes if isinstance(node, ast.arg)}
            given |= {node.name for node in nodes if isinstance(node, ast.FunctionDef)}
            self.assertEqual(drawn & given, set(), path.name)

    def test_no_two_files_draw_from_one_another(self):
        drawn = {}
        for path in files():
            rows = [node for node in ast.walk(ast.parse(path.read_text())) if isinstance(node, ast.ImportFrom)]
            drawn[path.stem] = {node.module.split(".")[1] for node in rows}
        ready = set()
        while len(ready) < len(drawn):
            more = {name for name in drawn if name not in ready and drawn[name] <= ready}
            self.assertTrue(more, drawn)
            ready |= more

    def test_each_name_is_drawn_from_the_file_that_defines_it(self):
        for name, node in self.each_node():
            if isinstance(node, ast.ImportFrom):
                top = ast.parse((PACKAGE / (node.module.split(".")[1] + ".py")).read_text()).body
                defined = {row.name for row in top if isinstance(row, (ast.FunctionDef, ast.ClassDef))}
                defined |= {row.targets[0].id for row in top if isinstance(row, ast.Assign)}
                self.assertLessEqual({alias.name for alias in node.names}, defined, name)

    def test_methods(self):
        own = {node.name for name, node in self.each_node() if isinstance(node, ast.FunctionDef)}
        for name, node in self.each_node():
            if isinstance(node, ast.Call) and isinstance(node.func, ast.Attribute):
                self.assertIn(node.func.attr, METHODS | own, name)

    def test_what_is_walked_at_once_is_not_kept(self):
        for name, node in self.each_node():
            if isinstance(node, (ast.Assign, ast.Return, ast.AugAssign)) and isinstance(node.value, ast.Call):
                called = node.value.func
                if isinstance(called, ast.Name):
                    self.assertNotIn(called.id, WALKED_AT_ONCE, (name, node.lineno))

    def test_is_stands_beside_none_and_truths_alone(self):
        for name, node in self.each_node():
            if isinstance(node, ast.Compare):
                for sign, right in zip(node.ops, node.comparators):
                    if isinstance(sign, (ast.Is, ast.IsNot)):
                        self.assertTrue(isinstance(right, ast.Constant), (name, node.lineno))
                        self.assertIn(repr(right.value), ("None", "True", "False"), (name, node.lineno))

    def test_powers_have_a_written_exponent(self):
        for name, node in self.each_node():
            if isinstance(node, ast.BinOp) and isinstance(node.op, ast.Pow):
                self.assertIsInstance(node.right, ast.Constant, (name, node.lineno))
                self.assertIn(node.right.value, range(65), (name, node.lineno))

    def test_forms_that_are_out(self):
        for name, node in self.each_node():
            self.assertNotIsInstance(node, FORMS_OUT, (name, getattr(node, "lineno", 0)))
            if isinstance(node, ast.Constant):
                self.assertNotIsInstance(node.value, (float, complex), name)
                if isinstance(node.value, str):
                    self.assertNotIn("%", node.value, name)
            if isinstance(node, (ast.For, ast.While)):
                self.assertEqual(node.orelse, [], name)


if __name__ == "__main__":
    unittest.main()
