"""A first look at whether the package keeps to the rules of its language; it does not see all of them."""

import ast
import pathlib
import re
import unittest

PACKAGE = pathlib.Path(__file__).resolve().parent.parent / "slashwise"

LEFT_OUT = (
    ast.With, ast.Match, ast.Global, ast.Nonlocal, ast.Yield, ast.YieldFrom, ast.Await, ast.AsyncFunctionDef,
    ast.AsyncFor, ast.AsyncWith, ast.GeneratorExp, ast.NamedExpr, ast.Div, ast.MatMult, ast.Import,
)
PYTHONS_OWN = {
    "len", "range", "enumerate", "zip", "min", "max", "sum", "abs", "sorted", "reversed", "int", "str", "bool",
    "bytes", "list", "tuple", "dict", "set", "frozenset", "isinstance", "ord", "repr", "any", "all", "divmod",
    "Exception", "ValueError", "TypeError", "KeyError", "IndexError", "LookupError", "ZeroDivisionError",
    "ArithmeticError", "OverflowError", "RuntimeError", "NotImplementedError", "AttributeError", "StopIteration",
}
METHODS = {"__init__", "__eq__", "__repr__", "__str__", "__len__"}
WORDS_LEFT_OUT = re.compile(
    r"\b(type|typing|typing_extensions|enum|Enum|IntEnum|StrEnum|Flag|IntFlag|Generic|Protocol|ABC|ABCMeta|namedtuple"
    r"|NamedTuple|TypedDict|TYPE_CHECKING|abstractmethod)\b|dataclass|overload|contextmanager"
)


def package_files():
    return sorted(path for path in PACKAGE.rglob("*") if "__pycache__" not in path.parts)


class LanguageTest(unittest.TestCase):
    def walked(self):
        """Each file's path, with each node of it."""
        for path in package_files():
            for node in ast.walk(ast.parse(path.read_text())):
                yield path, node

    def test_files_alone(self):
        for path in package_files():
            self.assertRegex(path.name, r"^[a-z0-9_]+\.py$")

    def test_signs_and_sizes(self):
        for path in package_files():
            text = path.read_bytes().decode("ascii")
            self.assertEqual([sign for sign in text if sign != "\n" and not " " <= sign <= "~"], [], path)
            self.assertLessEqual(len(text.splitlines()), 400, path)
            self.assertLessEqual(max([len(row) for row in text.splitlines()], default=0), 120, path)
            self.assertIsNone(WORDS_LEFT_OUT.search(text), path)

    def test_short_defs_with_plain_parameters(self):
        for path, node in self.walked():
            if isinstance(node, ast.FunctionDef):
                self.assertLessEqual(node.end_lineno - node.lineno + 1, 40, (path, node.name))
                self.assertEqual(node.decorator_list, [])
                self.assertIsNone(node.args.vararg)
                self.assertIsNone(node.args.kwarg)

    def test_nothing_left_out_of_the_language_stands_there(self):
        for path, node in self.walked():
            self.assertNotIsInstance(node, LEFT_OUT, (path, getattr(node, "lineno", 0)))
            if isinstance(node, ast.Constant):
                self.assertNotIsInstance(node.value, (float, complex))

    def test_imports_from_the_package_alone(self):
        for path, node in self.walked():
            if isinstance(node, ast.ImportFrom):
                self.assertEqual(node.level, 0, path)
                self.assertTrue(node.module.startswith("slashwise."), path)
                self.assertNotIn("*", [name.name for name in node.names])

    def test_no_two_files_draw_from_one_another(self):
        drawn = {}
        for path, node in self.walked():
            if isinstance(node, ast.ImportFrom):
                drawn.setdefault("slashwise." + path.stem, set()).add(node.module)
        for name in drawn:
            reached = set()
            todo = [name]
            while todo:
                for module in drawn.get(todo.pop(), set()) - reached:
                    reached.add(module)
                    todo.append(module)
            self.assertNotIn(name, reached)

    def test_no_local_is_called_like_an_import_or_a_class_of_its_file(self):
        for path in package_files():
            tree = ast.parse(path.read_text())
            taken = {name.name for node in tree.body if isinstance(node, ast.ImportFrom) for name in node.names}
            taken |= {node.name for node in tree.body if isinstance(node, ast.ClassDef)}
            for node in ast.walk(tree):
                if isinstance(node, ast.Name) and isinstance(node.ctx, ast.Store):
                    self.assertNotIn(node.id, taken, path)
                if isinstance(node, ast.arg):
                    self.assertNotIn(node.arg, taken, path)

    def test_no_name_is_a_method_and_a_value(self):
        methods = set()
        values = set()
        for path, node in self.walked():
            if isinstance(node, ast.ClassDef):
                methods |= {part.name for part in node.body if isinstance(part, ast.FunctionDef)}
            if isinstance(node, ast.Attribute) and isinstance(node.ctx, ast.Store):
                values.add(node.attr)
        self.assertEqual(methods & values, set())

    def test_plain_names_and_only_the_listed_ones_of_python(self):
        own = set(dir(__builtins__) if not isinstance(__builtins__, dict) else __builtins__)
        for path, node in self.walked():
            if isinstance(node, ast.Name):
                self.assertFalse(node.id.startswith("_"), (path, node.id))
                self.assertFalse(node.id in own - PYTHONS_OWN, (path, node.id))
                if isinstance(node.ctx, ast.Store):
                    self.assertNotIn(node.id, own, path)
            if isinstance(node, ast.arg):
                self.assertNotIn(node.arg, own, path)
            if isinstance(node, ast.FunctionDef):
                self.assertTrue(node.name in METHODS or not node.name.startswith("_"), (path, node.name))


if __name__ == "__main__":
    unittest.main()
