"""What ../shared/LANGUAGE.md asks of the package's files, as far as it is easily seen."""

import ast
import builtins
import pathlib
import unittest

FOLDER = pathlib.Path(__file__).resolve().parent.parent / "lastshown"
BUILTINS = (
    "len range enumerate zip min max sum abs sorted reversed int str bool bytes list tuple dict set frozenset "
    "isinstance ord repr any all divmod iter next map property staticmethod classmethod super type "
    "ValueError TypeError KeyError IndexError LookupError StopIteration NotImplemented"
).split()
NOT_ALLOWED = (ast.AsyncFunctionDef, ast.AsyncFor, ast.AsyncWith, ast.Await, ast.Div, ast.Import)
EAGER = ("any", "all", "min", "max", "sum", "sorted")


def files():
    return sorted(path for path in FOLDER.iterdir() if path.name != "__pycache__")


class TestLanguage(unittest.TestCase):
    def test_the_folder_holds_python_files_alone(self):
        for path in files():
            self.assertRegex(path.name, r"^[a-z_]+\.py$")

    def test_size_and_characters(self):
        for path in files():
            lines = path.read_text("ascii").split("\n")
            self.assertLess(len(lines), 400, path.name)
            for line in lines:
                self.assertLessEqual(len(line), 120, path.name)
                self.assertRegex(line, r"^[ -~]*$", path.name)

    def nodes(self):
        for path in files():
            for node in ast.walk(ast.parse(path.read_text())):
                yield path.name, node

    def test_functions_are_small(self):
        for name, node in self.nodes():
            if isinstance(node, ast.FunctionDef):
                self.assertLessEqual(node.end_lineno - node.lineno, 39, f"{name} {node.name}")

    def test_imports_statements_and_builtins(self):
        for name, node in self.nodes():
            self.assertNotIsInstance(node, NOT_ALLOWED, name)
            if isinstance(node, ast.ImportFrom):
                self.assertRegex(node.module, r"^(lastshown\.[a-z]+|heapq|math|itertools|collections)$")
                self.assertTrue(all(part.asname is None for part in node.names))
            if isinstance(node, ast.Name) and node.id in dir(builtins):
                self.assertIn(node.id, BUILTINS, name)

    def test_no_generator_expression_where_a_class_has_an_eq(self):
        for name, node in self.nodes():
            if isinstance(node, ast.Call) and isinstance(node.func, ast.Name) and node.func.id in EAGER:
                self.assertFalse([part for part in node.args if isinstance(part, ast.GeneratorExp)], name)

    def test_module_level_holds_definitions_alone(self):
        for path in files():
            for node in ast.parse(path.read_text()).body:
                self.assertIsInstance(
                    node, (ast.ImportFrom, ast.FunctionDef, ast.ClassDef, ast.Assign, ast.Expr), path.name)
                if isinstance(node, ast.Assign):
                    ast.literal_eval(node.value)
                if isinstance(node, ast.Expr):
                    self.assertIsInstance(ast.literal_eval(node.value), str)


class TestInterface(unittest.TestCase):
    names = {
        "errors": "ShownError NoPrices NoDoors NotRight NothingToUndo NoRule NoDoor NoDeed NoItem NoLine Missing NoText",
        "books": "Book", "plays": "play faults mixtures", "right": "first_fault is_right needless fewest_asks",
    }

    def test_each_name_is_defined_in_its_file(self):
        for module, names in self.names.items():
            body = ast.parse((FOLDER / f"{module}.py").read_text()).body
            defined = [node.name for node in body if isinstance(node, (ast.FunctionDef, ast.ClassDef))]
            for name in names.split():
                self.assertIn(name, defined)


if __name__ == "__main__":
    unittest.main()
