"""The rules for the files of the package, as far as a short test can see them."""

import ast
import builtins
import pathlib
import re
import unittest

PACKAGE = pathlib.Path(__file__).resolve().parent.parent / "tagless"

BUILTINS = set("""len range enumerate zip min max sum abs sorted reversed int str bool bytes list tuple dict set
frozenset isinstance ord repr any all divmod iter next map Exception ValueError TypeError KeyError IndexError
LookupError ZeroDivisionError ArithmeticError OverflowError RuntimeError NotImplementedError AttributeError
StopIteration NotImplemented property staticmethod classmethod super""".split())

LIBRARY = {"heapq", "math", "itertools"}

DOUBLE = set("""init eq repr str len enter exit call iter lt le gt ge ne add sub mul floordiv mod pow and or xor lshift
rshift radd rsub rmul rfloordiv rmod rand ror rxor rlshift rrshift iadd isub imul ifloordiv imod ipow iand ior ixor
ilshift irshift neg pos invert abs bool contains getitem setitem""".split())

BARRED_NAMES = {"register", "mro", "elements", "open", "input", "law", "version_info", "with_traceback", "add_note"}

BARRED_WORDS = """typing typing_extensions enum Enum IntEnum StrEnum Flag IntFlag Generic Protocol ABC ABCMeta
namedtuple NamedTuple TypedDict TYPE_CHECKING abstractmethod""".split()

STATEMENTS = (ast.Global, ast.AsyncFunctionDef, ast.AsyncFor, ast.AsyncWith, ast.Import, ast.Await)

OF_A_LIST = {"any", "all", "min", "max", "sum", "sorted"}


def sources():
    return sorted(PACKAGE.rglob("*.py"))


def trees():
    return [(path, ast.parse(path.read_text("utf-8"))) for path in sources()]


def nodes(*classes):
    return [(path, node) for path, tree in trees() for node in ast.walk(tree) if isinstance(node, classes)]


class TestFiles(unittest.TestCase):

    def test_the_folder_contains_nothing_else(self):
        for path in PACKAGE.rglob("*"):
            if "__pycache__" not in path.parts:
                self.assertTrue(path.is_dir() or path.suffix == ".py", path)

    def test_names_of_files(self):
        for path in sources():
            self.assertRegex(path.stem, r"\A([a-z][a-z0-9_]*|__init__|__main__)\Z")

    def test_sizes_and_characters(self):
        for path in sources():
            text = path.read_bytes().decode("ascii")
            lines = text.split("\n")
            self.assertLessEqual(len(lines), 399, path)
            for line in lines:
                self.assertLessEqual(len(line), 120, (path, line))
                self.assertRegex(line, r"\A[ -~]*\Z", path)
                self.assertEqual(line, line.rstrip(), path)

    def test_functions_have_at_most_40_lines(self):
        for path, node in nodes(ast.FunctionDef):
            self.assertLessEqual(node.end_lineno - node.lineno + 1, 40, (path, node.name))

    def test_words_that_do_not_occur(self):
        for path in sources():
            text = path.read_text()
            for word in BARRED_WORDS:
                self.assertIsNone(re.search(r"\b" + word + r"\b", text), (path, word))
            for part in ("dataclass", "overload", "contextmanager", "(type)", "Meta", "metaclass="):
                self.assertNotIn(part, text, path)


class TestImports(unittest.TestCase):

    def test_only_from_the_very_files_of_the_package(self):
        for path, node in nodes(ast.ImportFrom):
            self.assertEqual(node.level, 0, path)
            if node.module in LIBRARY or node.module == "__future__":
                continue
            self.assertRegex(node.module, r"\Atagless\.[a-z0-9_]+\Z")
            target = PACKAGE / (node.module.split(".")[1] + ".py")
            defined = [row.name for row in ast.parse(target.read_text()).body
                       if isinstance(row, (ast.FunctionDef, ast.ClassDef))]
            for name in node.names:
                if not name.name.isupper():
                    self.assertIn(name.name, defined, path)

    def test_no_two_files_import_from_each_other(self):
        wanted = {path.stem: set() for path in sources()}
        for path, node in nodes(ast.ImportFrom):
            if node.module.startswith("tagless."):
                wanted[path.stem].add(node.module.split(".")[1])
        while wanted:
            free = [stem for stem in wanted if not wanted[stem] & set(wanted)]
            self.assertTrue(free, wanted)
            wanted = {stem: wanted[stem] for stem in wanted if stem not in free}


class TestCode(unittest.TestCase):

    def test_statements(self):
        self.assertEqual([(path, node.lineno) for path, node in nodes(*STATEMENTS)], [])

    def test_builtins(self):
        for path, node in nodes(ast.Name):
            if node.id in dir(builtins):
                self.assertIn(node.id, BUILTINS, (path, node.lineno))
                self.assertIsInstance(node.ctx, ast.Load, (path, node.lineno))

    def test_names(self):
        for path, node in nodes(ast.FunctionDef, ast.ClassDef, ast.arg, ast.Attribute, ast.Name):
            name = (getattr(node, "name", None) or getattr(node, "arg", None) or getattr(node, "attr", None)
                    or getattr(node, "id", None))
            self.assertNotIn(name, BARRED_NAMES, (path, node.lineno))
            if name.startswith("__"):
                self.assertIn(name.strip("_"), DOUBLE, (path, node.lineno))
            else:
                self.assertRegex(name, r"\A(_|_?[A-Za-z][A-Za-z0-9_]*)\Z")

    def test_strings(self):
        for path, node in nodes(ast.Constant):
            self.assertNotIsInstance(node.value, (float, complex), (path, node.lineno))
            if isinstance(node.value, str):
                self.assertNotIn("%", node.value, (path, node.lineno))

    def test_operators(self):
        for path, node in nodes(ast.Div, ast.MatMult):
            self.fail((path, node))
        for path, node in nodes(ast.Compare):
            for sign, side in zip(node.ops, node.comparators):
                if isinstance(sign, (ast.Is, ast.IsNot)):
                    self.assertIsInstance(side, ast.Constant, (path, node.lineno))

    def test_these_builtins_take_a_list(self):
        for path, node in nodes(ast.Call):
            if isinstance(node.func, ast.Name) and node.func.id in OF_A_LIST:
                for argument in node.args:
                    self.assertNotIsInstance(argument, ast.GeneratorExp, (path, node.lineno))

    def test_decorators(self):
        for path, node in nodes(ast.FunctionDef, ast.ClassDef):
            for row in node.decorator_list:
                self.assertRegex(ast.unparse(row), r"\A(property|staticmethod|classmethod|\w+\.setter)\Z", path)

    def test_module_level(self):
        for path, tree in trees():
            for row in tree.body:
                told = isinstance(row, ast.Expr) and isinstance(row.value, ast.Constant)
                self.assertTrue(told or isinstance(row, (ast.ImportFrom, ast.FunctionDef, ast.ClassDef, ast.Assign)),
                                (path, row.lineno))


if __name__ == "__main__":
    unittest.main()
