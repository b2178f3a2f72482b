"""What ../shared/LANGUAGE.md asks of the package's files, as far as it is easily seen."""

import ast
import builtins
import importlib
import inspect
import pathlib
import unittest

FOLDER = pathlib.Path(__file__).resolve().parent.parent / "lastshown"
BUILTINS = (
    "len range enumerate zip min max sum abs sorted reversed int str bool bytes list tuple dict set frozenset "
    "isinstance ord repr any all divmod iter next map property staticmethod classmethod super type "
    "ValueError TypeError KeyError IndexError LookupError StopIteration NotImplemented"
).split()
NOT_ALLOWED = (ast.AsyncFunctionDef, ast.AsyncFor, ast.AsyncWith, ast.Await, ast.Div, ast.Import)
BARRED = (
    "mro elements open input law version_info with_traceback add_note register attrgetter breakpoint builtins compile dir "
    "eval exec exit gc globals help id importlib license locals methodcaller os quit setattr super type vars sys"
).split()
EAGER = ("any", "all", "min", "max", "sum", "sorted")
PROPERTIES = ("total", "asked", "book")


def can_be_starred(node):
    """Whether L7 lets this value stand behind the star of a call."""
    if isinstance(node, ast.Attribute):
        return isinstance(node.value, ast.Name) and node.attr not in PROPERTIES
    if isinstance(node, (ast.List, ast.Tuple)):
        return all(can_be_starred(part) for part in node.elts)
    if isinstance(node, ast.Dict):
        return all(can_be_starred(part) for part in [*node.keys, *node.values])
    return isinstance(node, (ast.Name, ast.Constant))


def has_plain_stars(call):
    """Whether the stars of a call are as L7 asks."""
    if any(key.arg is None for key in call.keywords):
        named = isinstance(call.keywords[0].value, (ast.Name, ast.Attribute))
        values = [part.value if isinstance(part, ast.Starred) else part for part in call.args]
        plain = all(can_be_starred(part) for part in [call.keywords[0].value, *values])
        return len(call.keywords) == 1 and named and plain
    return all(can_be_starred(part.value) for part in call.args if isinstance(part, ast.Starred))


def files():
    return sorted(path for path in FOLDER.iterdir() if path.name != "__pycache__")


class TestLanguage(unittest.TestCase):
    def test_the_folder_holds_python_files_alone(self):
        for path in files():
            self.assertRegex(path.name, r"^[a-z_]+\.py$")

    def test_size_and_characters(self):
        for path in files():
            lines = path.read_text("ascii").split("\n")
            self.assertLess(len(lines), 400, path.name)
            for line in lines:
                self.assertLessEqual(len(line), 120, path.name)
                self.assertRegex(line, r"^[ -~]*$", path.name)

    def nodes(self):
        for path in files():
            for node in ast.walk(ast.parse(path.read_text())):
                yield path.name, node

    def test_functions_are_small(self):
        for name, node in self.nodes():
            if isinstance(node, ast.FunctionDef):
                self.assertLessEqual(node.end_lineno - node.lineno, 39, f"{name} {node.name}")

    def test_imports_statements_and_builtins(self):
        for name, node in self.nodes():
            self.assertNotIsInstance(node, NOT_ALLOWED, name)
            if isinstance(node, ast.ImportFrom):
                self.assertRegex(node.module, r"^(lastshown\.[a-z]+|heapq|math|itertools|collections)$")
                self.assertTrue(all(part.asname is None for part in node.names))
            if isinstance(node, ast.Name) and node.id in dir(builtins):
                self.assertIn(node.id, BUILTINS, name)

    def test_names(self):
        for path in files():
            tree = ast.parse(path.read_text())
            taken = {part.name for node in tree.body if isinstance(node, ast.ImportFrom) for part in node.names}
            taken |= {node.name for node in tree.body if isinstance(node, ast.ClassDef)}
            bound = [node.name for node in tree.body if isinstance(node, (ast.FunctionDef, ast.ClassDef))]
            bound += [part.name for node in tree.body if isinstance(node, ast.ImportFrom) for part in node.names]
            bound += [node.targets[0].id for node in tree.body if isinstance(node, ast.Assign)]
            self.assertEqual(len(bound), len(set(bound)), path.name)
            assigned = {node.id for node in ast.walk(tree) if isinstance(node, ast.Name) and isinstance(node.ctx, ast.Store)}
            assigned |= {node.arg for node in ast.walk(tree) if isinstance(node, ast.arg)}
            self.assertFalse(assigned & taken, path.name)
            self.assertFalse((assigned | set(bound)) & (set(dir(builtins)) | set(BARRED)), path.name)

    def test_methods_and_attributes(self):
        methods, stored = set(), set()
        for _, node in self.nodes():
            if isinstance(node, ast.ClassDef):
                methods |= {part.name for part in node.body if isinstance(part, ast.FunctionDef)}
            if isinstance(node, ast.Attribute) and isinstance(node.ctx, ast.Store):
                stored.add(node.attr)
            if isinstance(node, ast.FunctionDef) and node.name.startswith("__"):
                self.assertIn(node.name, ("__init__", "__eq__", "__len__", "__contains__"))
            if isinstance(node, ast.FunctionDef):
                decorators = [ast.unparse(part) for part in node.decorator_list]
                self.assertIn(decorators, ([], ["property"], ["book.setter"]))
        self.assertFalse(methods & stored)
        for name in methods | stored:
            self.assertFalse([kind for kind in (str, int, list, dict, set, bytes, tuple) if hasattr(kind, name)]
                             and not name.startswith("__") and name != "index", name)

    def test_no_file_imports_itself_by_others(self):
        imports = {}
        for name, node in self.nodes():
            if isinstance(node, ast.ImportFrom) and node.module.startswith("lastshown."):
                imports.setdefault(name[:-3], set()).add(node.module.partition(".")[2])
        for name in imports:
            seen, behind = set(), [name]
            while behind:
                for other in imports.get(behind.pop(), ()):
                    self.assertNotEqual(other, name)
                    if other not in seen:
                        seen.add(other)
                        behind.append(other)

    def test_no_generator_expression_where_a_class_has_an_eq(self):
        for name, node in self.nodes():
            if isinstance(node, ast.Call) and isinstance(node.func, ast.Name) and node.func.id in EAGER:
                self.assertFalse([part for part in node.args if isinstance(part, ast.GeneratorExp)], name)

    def test_stars_of_calls_stand_before_plain_values(self):
        for name, node in self.nodes():
            if isinstance(node, ast.Call):
                self.assertTrue(has_plain_stars(node), f"{name} {node.lineno}")

    def test_which_stars_of_calls_are_plain(self):
        for text in ("f(*xs)", "f(g(k), *xs)", "f(*box.rows, n, sep=g(n))", "f(*(1, k))", "f(*[xs, (box.n,)])",
                     "f(*{k: 1})", "f(**d)", "f(k, *xs, **box.d)", "f([*g(k)])", "f(k)"):
            self.assertTrue(has_plain_stars(ast.parse(text, mode="eval").body), text)
        for text in ("f(*[g(x) for x in xs])", "f(*(x for x in xs))", "f(*g(k))", "f(*xs[1:])", "f(*xs[0])",
                     "f(*xs, *g(k))", "f(*(xs + ys))", "f(*box.book)", "f(*box.inner.rows)", "f(*[g(k)])", "f(*[*xs])",
                     "f(*{**d})", "f(**g(k))", "f(**{'k': 1})", "f(g(k), **d)", "f(*g(k), **d)", "f(**d, **e)",
                     "f(n=1, **d)", "f(*xs if k else ys)"):
            self.assertFalse(has_plain_stars(ast.parse(text, mode="eval").body), text)

    def test_module_level_holds_definitions_alone(self):
        for path in files():
            for node in ast.parse(path.read_text()).body:
                self.assertIsInstance(
                    node, (ast.ImportFrom, ast.FunctionDef, ast.ClassDef, ast.Assign, ast.Expr), path.name)
                if isinstance(node, ast.Assign):
                    ast.literal_eval(node.value)
                if isinstance(node, ast.Expr):
                    self.assertIsInstance(ast.literal_eval(node.value), str)


class TestInterface(unittest.TestCase):
    names = {
        "errors": "ShownError NoPrices NoDoors NotRight NothingToUndo NoRule NoDoor NoDeed NoItem NoLine Missing NoText",
        "books": "Book", "plays": "play faults mixtures", "right": "first_fault is_right needless fewest_asks",
        "mixing": "first_mixture is_plain", "alike": "told_apart", "shops": "Shop",
        "texts": "book_text read_book history_text read_history",
    }
    arguments = {
        "books": {"Book": "put look alter back pay again", "Book.rule": "door", "Book.rules": "",
                  "Book.with_rule": "door rule", "Book.asking": "doors", "Book.__eq__": "other"},
        "plays": {"play": "book prices deeds", "faults": "book prices deeds", "mixtures": "book prices deeds"},
        "right": {"first_fault": "book", "is_right": "book", "needless": "book", "fewest_asks": "book"},
        "mixing": {"first_mixture": "book", "is_plain": "book"},
        "alike": {"told_apart": "book other"},
        "shops": {"Shop": "book prices", "Shop.do": "deed", "Shop.do_all": "deeds", "Shop.undo": "",
                  "Shop.change": "book", "Shop.price": "item", "Shop.lines": "", "Shop.paid": "", "Shop.__len__": "",
                  "Shop.__contains__": "item"},
        "texts": {"book_text": "book", "read_book": "text", "history_text": "prices deeds", "read_history": "text"},
    }

    def test_each_name_is_defined_in_its_file(self):
        for module, names in self.names.items():
            body = ast.parse((FOLDER / f"{module}.py").read_text()).body
            defined = [node.name for node in body if isinstance(node, (ast.FunctionDef, ast.ClassDef))]
            for name in names.split():
                self.assertIn(name, defined)

    def test_arguments_have_the_names_of_the_interface(self):
        for module, functions in self.arguments.items():
            found = importlib.import_module(f"lastshown.{module}")
            for name, arguments in functions.items():
                owner, _, method = name.partition(".")
                call = vars(getattr(found, owner))[method] if method else getattr(found, owner)
                names = [each for each in inspect.signature(call).parameters if each != "self"]
                self.assertEqual(names, arguments.split(), name)


if __name__ == "__main__":
    unittest.main()
