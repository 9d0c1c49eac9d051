"""The rules of LANGUAGE.md that can be read off the package's files one by one.

Not all rules stand here: those for parts of Python that the package does not use are met by not using them.
"""

import ast
import builtins
import pathlib
import re
import unittest

PACKAGE = pathlib.Path(__file__).resolve().parent.parent / "crossgrants"

BUILTINS = set(
    "len range enumerate zip min max sum abs sorted reversed int str bool bytes list tuple dict set frozenset"
    " isinstance ord repr any all divmod iter next Exception ValueError TypeError KeyError IndexError LookupError"
    " ZeroDivisionError ArithmeticError OverflowError RuntimeError NotImplementedError AttributeError StopIteration"
    " NotImplemented".split()
)
BARRED_WORDS = (
    r"\b(type|typing|typing_extensions|enum|Enum|IntEnum|StrEnum|Flag|IntFlag|Generic|Protocol|ABC|ABCMeta"
    r"|namedtuple|NamedTuple|TypedDict|TYPE_CHECKING|abstractmethod)\b|dataclass|overload|contextmanager"
)
BARRED_NODES = (
    ast.Global, ast.AsyncFunctionDef, ast.AsyncFor, ast.AsyncWith, ast.Await, ast.Div, ast.MatMult, ast.Import,
)
DOUBLE_NAMES = set(
    "__init__ __eq__ __repr__ __str__ __len__ __enter__ __exit__ __call__ __iter__ __lt__ __le__ __gt__ __ge__ __ne__"
    " __bool__ __contains__ __getitem__ __setitem__".split()
)
FOLDED = {"any", "all", "min", "max", "sum", "sorted"}
BUILTIN_METHODS = set(
    "append clear copy count endswith extend find get index insert isalnum isalpha isdigit islower isspace isupper"
    " items join keys ljust lower lstrip partition pop remove replace reverse rfind rjust rpartition rsplit rstrip"
    " setdefault split splitlines startswith strip update upper values zfill bit_length isascii isdecimal".split()
)
BARRED_NAMES = set(
    "register mro elements open input version_info with_traceback add_note attrgetter breakpoint builtins compile"
    " copyright credits delattr dir eval exec exit gc getattr globals hasattr help id importlib license locals"
    " methodcaller os quit setattr super type vars sys".split()
)


def files():
    return sorted(path for path in PACKAGE.rglob("*") if path.is_file() and "__pycache__" not in path.parts)


def trees():
    return [(path.name, ast.parse(path.read_text())) for path in files()]


def nodes(kinds):
    return [(name, node) for name, tree in trees() for node in ast.walk(tree) if isinstance(node, kinds)]


class FilesTest(unittest.TestCase):
    def test_plain_file_names_alone(self):
        self.assertIn("__init__.py", [path.name for path in files()])
        for path in files():
            self.assertRegex(path.name, r"^([a-z][a-z0-9_]*|__init__)\.py$")

    def test_characters(self):
        for path in files():
            self.assertEqual(re.findall(rb"[^\n -~]", path.read_bytes()), [], path.name)

    def test_sizes(self):
        for path in files():
            lines = path.read_text().splitlines()
            self.assertLessEqual(len(lines), 400, path.name)
            self.assertLessEqual(max([len(line) for line in lines], default=0), 120, path.name)
        for name, node in nodes(ast.FunctionDef):
            self.assertLessEqual(node.end_lineno - node.lineno + 1, 40, (name, node.name))

    def test_barred_words(self):
        for path in files():
            self.assertIsNone(re.search(BARRED_WORDS, path.read_text()), path.name)

    def test_strings(self):
        for name, node in nodes(ast.Constant):
            if isinstance(node.value, str):
                self.assertNotIn("%", node.value, name)
            self.assertNotIsInstance(node.value, (float, complex), name)


class CodeTest(unittest.TestCase):
    def test_imports_are_of_the_package_by_full_names(self):
        for name, node in nodes(ast.ImportFrom):
            self.assertEqual(node.level, 0, name)
            self.assertRegex(node.module, r"^(crossgrants\.[a-z0-9_.]+|__future__)$", name)
            self.assertNotIn("*", [alias.name for alias in node.names], name)

    def test_module_level(self):
        allowed = (ast.ImportFrom, ast.FunctionDef, ast.ClassDef, ast.Assign, ast.AnnAssign)
        for name, tree in trees():
            for node in tree.body[0 if ast.get_docstring(tree) is None else 1:]:
                self.assertIsInstance(node, allowed, name)

    def test_barred_parts_of_python(self):
        self.assertEqual(nodes(BARRED_NODES), [])
        for name, node in nodes((ast.FunctionDef, ast.ClassDef)):
            for item in node.decorator_list:
                self.assertIsInstance(node, ast.FunctionDef, name)
                self.assertRegex(ast.unparse(item), r"^(property|\w+\.setter|staticmethod|classmethod)$", name)

    def test_builtins(self):
        for name, node in nodes(ast.Name):
            if hasattr(builtins, node.id):
                self.assertIn(node.id, BUILTINS | {"property", "staticmethod", "classmethod", "super"}, name)
                self.assertIsInstance(node.ctx, ast.Load, name)

    def test_names_do_not_begin_with_an_underscore(self):
        for name, node in nodes((ast.FunctionDef, ast.ClassDef)):
            if node.name not in DOUBLE_NAMES:
                self.assertFalse(node.name.startswith("_"), (name, node.name))
        for name, node in nodes(ast.Name):
            self.assertFalse(node.id.startswith("_"), (name, node.id))
        for name, node in nodes(ast.arg):
            self.assertFalse(node.arg.startswith("_"), (name, node.arg))
            self.assertFalse(hasattr(builtins, node.arg), (name, node.arg))

    def test_is_stands_with_none_true_and_false_alone(self):
        for name, node in nodes(ast.Compare):
            for sign, side in zip(node.ops, node.comparators):
                if isinstance(sign, (ast.Is, ast.IsNot)):
                    self.assertIn(ast.unparse(side), ("None", "True", "False"), name)

    def test_names_are_bound_once_at_module_level(self):
        for name, tree in trees():
            bound = []
            for node in tree.body:
                if isinstance(node, ast.ImportFrom):
                    bound.extend(alias.asname or alias.name for alias in node.names)
                elif isinstance(node, ast.Assign):
                    bound.extend(target.id for target in node.targets)
                elif isinstance(node, (ast.FunctionDef, ast.ClassDef)):
                    bound.append(node.name)
            self.assertEqual(len(bound), len(set(bound)), name)

    def test_no_variable_has_the_name_of_a_class_or_an_import_of_its_file(self):
        for name, tree in trees():
            taken = {node.name for node in tree.body if isinstance(node, ast.ClassDef)}
            for node in tree.body:
                if isinstance(node, ast.ImportFrom):
                    taken |= {alias.asname or alias.name for alias in node.names}
            for node in ast.walk(tree):
                if isinstance(node, ast.Name) and isinstance(node.ctx, ast.Store):
                    self.assertNotIn(node.id, taken, name)
                elif isinstance(node, ast.arg):
                    self.assertNotIn(node.arg, taken, name)

    def test_no_name_is_a_method_and_an_attribute(self):
        methods = {
            method.name for name, node in nodes(ast.ClassDef)
            for method in node.body if isinstance(method, ast.FunctionDef) and not method.decorator_list
        }
        stored = {node.attr for name, node in nodes(ast.Attribute) if isinstance(node.ctx, ast.Store)}
        self.assertEqual(methods & stored, set())

    def test_attributes_that_are_read_are_there(self):
        methods = {
            method.name for name, node in nodes(ast.ClassDef) for method in node.body
            if isinstance(method, ast.FunctionDef)
        }
        stored = {node.attr for name, node in nodes(ast.Attribute) if isinstance(node.ctx, ast.Store)}
        for name, node in nodes(ast.Attribute):
            self.assertIn(node.attr, methods | stored | BUILTIN_METHODS, name)
        self.assertEqual((methods | stored) & BUILTIN_METHODS, set())

    def test_methods_are_called_where_they_stand(self):
        for path in files():
            tree = ast.parse(path.read_text())
            called = [node.func for node in ast.walk(tree) if isinstance(node, ast.Call)]
            stored = {node.attr for name, node in nodes(ast.Attribute) if isinstance(node.ctx, ast.Store)}
            for node in ast.walk(tree):
                if isinstance(node, ast.Attribute) and node.attr not in stored:
                    self.assertIn(node, called, (path.name, node.attr))

    def test_barred_names(self):
        for name, node in nodes((ast.Name, ast.arg, ast.FunctionDef, ast.ClassDef, ast.Attribute, ast.keyword)):
            for field in ("id", "arg", "name", "attr"):
                self.assertNotIn(getattr(node, field, None), BARRED_NAMES, name)

    def test_what_stands_in_finally_is_simple(self):
        for name, node in nodes(ast.Try):
            self.assertEqual(node.handlers, [], name)
            for row in node.finalbody:
                self.assertRegex(ast.unparse(row), r"^self\.\w+ -= 1$|^self\.\w+\.append\(\('\w+', \w+\)\)$", name)

    def test_no_two_files_import_from_each_other(self):
        needs = {
            name: {node.module.split(".")[-1] + ".py" for node in tree.body if isinstance(node, ast.ImportFrom)}
            for name, tree in trees()
        }
        while needs:
            free = [name for name in needs if not needs[name] & set(needs)]
            self.assertTrue(free, needs)
            for name in free:
                del needs[name]

    def test_lists_are_folded_and_sorted(self):
        for name, node in nodes(ast.Call):
            if isinstance(node.func, ast.Name) and node.func.id in FOLDED:
                for part in node.args:
                    self.assertNotIsInstance(part, ast.GeneratorExp, name)
            elif isinstance(node.func, ast.Attribute):
                self.assertNotEqual(node.func.attr, "sort", name)


if __name__ == "__main__":
    unittest.main()
