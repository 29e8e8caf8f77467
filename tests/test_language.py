"""The rules for the files of the package, as far as a short test can see them."""

import ast
import builtins
import functools
import pathlib
import re
import unittest

PACKAGE = pathlib.Path(__file__).resolve().parent.parent / "tagless"

BUILTINS = set("""len range enumerate zip min max sum abs sorted reversed int str bool bytes list tuple dict set
frozenset isinstance ord repr any all divmod iter next map Exception ValueError TypeError KeyError IndexError
LookupError ZeroDivisionError ArithmeticError OverflowError RuntimeError NotImplementedError AttributeError
StopIteration NotImplemented property staticmethod classmethod super""".split())

LIBRARY = {"heapq", "math", "itertools"}

DOUBLE = set("""init eq repr str len enter exit call iter lt le gt ge ne add sub mul floordiv mod pow and or xor lshift
rshift radd rsub rmul rfloordiv rmod rand ror rxor rlshift rrshift iadd isub imul ifloordiv imod ipow iand ior ixor
ilshift irshift neg pos invert abs bool contains getitem setitem""".split())

BARRED_NAMES = {"register", "mro", "elements", "open", "input", "law", "version_info", "with_traceback", "add_note"}

BARRED_WORDS = """typing typing_extensions enum Enum IntEnum StrEnum Flag IntFlag Generic Protocol ABC ABCMeta
namedtuple NamedTuple TypedDict TYPE_CHECKING abstractmethod""".split()

STATEMENTS = (ast.Global, ast.AsyncFunctionDef, ast.AsyncFor, ast.AsyncWith, ast.Import, ast.Await)

OF_A_LIST = {"any", "all", "min", "max", "sum", "sorted"}


def sources():
    return sorted(PACKAGE.rglob("*.py"))


@functools.cache
def trees():
    return [(path, ast.parse(path.read_text("utf-8"))) for path in sources()]


def nodes(*classes):
    return [(path, node) for path, tree in trees() for node in ast.walk(tree) if isinstance(node, classes)]


class TestFiles(unittest.TestCase):

    def test_the_folder_contains_nothing_else(self):
        for path in PACKAGE.rglob("*"):
            if "__pycache__" not in path.parts:
                self.assertTrue(path.is_dir() or path.suffix == ".py", path)

    def test_names_of_files(self):
        for path in sources():
            self.assertRegex(path.stem, r"\A([a-z][a-z0-9_]*|__init__|__main__)\Z")

    def test_sizes_and_characters(self):
        for path in sources():
            text = path.read_bytes().decode("ascii")
            lines = text.split("\n")
            self.assertLessEqual(len(lines), 399, path)
            for line in lines:
                self.assertLessEqual(len(line), 120, (path, line))
                self.assertRegex(line, r"\A[ -~]*\Z", path)
                self.assertEqual(line, line.rstrip(), path)

    def test_functions_have_at_most_40_lines(self):
        for path, node in nodes(ast.FunctionDef):
            self.assertLessEqual(node.end_lineno - node.lineno + 1, 40, (path, node.name))

    def test_words_that_do_not_occur(self):
        for path in sources():
            text = path.read_text()
            for word in BARRED_WORDS:
                self.assertIsNone(re.search(r"\b" + word + r"\b", text), (path, word))
            for part in ("dataclass", "overload", "contextmanager", "(type)", "Meta", "metaclass="):
                self.assertNotIn(part, text, path)


class TestImports(unittest.TestCase):

    def test_only_from_the_very_files_of_the_package(self):
        for path, node in nodes(ast.ImportFrom):
            self.assertEqual(node.level, 0, path)
            if node.module in LIBRARY or node.module == "__future__":
                continue
            self.assertRegex(node.module, r"\Atagless\.[a-z0-9_]+\Z")
            target = PACKAGE / (node.module.split(".")[1] + ".py")
            defined = [row.name for row in ast.parse(target.read_text()).body
                       if isinstance(row, (ast.FunctionDef, ast.ClassDef))]
            for name in node.names:
                if not name.name.isupper():
                    self.assertIn(name.name, defined, path)

    def test_no_two_files_import_from_each_other(self):
        wanted = {path.stem: set() for path in sources()}
        for path, node in nodes(ast.ImportFrom):
            if node.module.startswith("tagless."):
                wanted[path.stem].add(node.module.split(".")[1])
        while wanted:
            free = [stem for stem in wanted if not wanted[stem] & set(wanted)]
            self.assertTrue(free, wanted)
            wanted = {stem: wanted[stem] for stem in wanted if stem not in free}


class TestCode(unittest.TestCase):

    def test_statements(self):
        self.assertEqual([(path, node.lineno) for path, node in nodes(*STATEMENTS)], [])

    def test_builtins(self):
        for path, node in nodes(ast.Name):
            if node.id in dir(builtins):
                self.assertIn(node.id, BUILTINS, (path, node.lineno))
                self.assertIsInstance(node.ctx, ast.Load, (path, node.lineno))

    def test_names(self):
        for path, node in nodes(ast.FunctionDef, ast.ClassDef, ast.arg, ast.Attribute, ast.Name):
            name = (getattr(node, "name", None) or getattr(node, "arg", None) or getattr(node, "attr", None)
                    or getattr(node, "id", None))
            self.assertNotIn(name, BARRED_NAMES, (path, node.lineno))
            if name.startswith("__"):
                self.assertIn(name.strip("_"), DOUBLE, (path, node.lineno))
            else:
                self.assertRegex(name, r"\A(_|_?[A-Za-z][A-Za-z0-9_]*)\Z")

    def test_strings(self):
        for path, node in nodes(ast.Constant):
            self.assertNotIsInstance(node.value, (float, complex), (path, node.lineno))
            if isinstance(node.value, str):
                self.assertNotIn("%", node.value, (path, node.lineno))

    def test_operators(self):
        for path, node in nodes(ast.Div, ast.MatMult):
            self.fail((path, node))
        for path, node in nodes(ast.Compare):
            for sign, side in zip(node.ops, node.comparators):
                if isinstance(sign, (ast.Is, ast.IsNot)):
                    self.assertIsInstance(side, ast.Constant, (path, node.lineno))

    def test_these_builtins_take_a_list(self):
        for path, node in nodes(ast.Call):
            if isinstance(node.func, ast.Name) and node.func.id in OF_A_LIST:
                for argument in node.args:
                    self.assertNotIsInstance(argument, ast.GeneratorExp, (path, node.lineno))

    def test_decorators(self):
        for path, node in nodes(ast.FunctionDef, ast.ClassDef):
            for row in node.decorator_list:
                self.assertRegex(ast.unparse(row), r"\A(property|staticmethod|classmethod|\w+\.setter)\Z", path)

    def test_module_level(self):
        for path, tree in trees():
            for row in tree.body:
                told = isinstance(row, ast.Expr) and isinstance(row.value, ast.Constant)
                self.assertTrue(told or isinstance(row, (ast.ImportFrom, ast.FunctionDef, ast.ClassDef, ast.Assign)),
                                (path, row.lineno))



METHODS = set("""append clear copy count endswith extend find get index insert isalnum isalpha isdigit islower isspace
isupper items join keys ljust lower lstrip partition pop remove replace reverse rfind rjust rpartition rsplit rstrip
setdefault split splitlines startswith strip update upper values zfill bit_length sort add discard title capitalize
swapcase casefold center expandtabs removeprefix removesuffix rindex isascii isdecimal isnumeric istitle isidentifier
isprintable""".split())

CHANGING = set("append clear extend insert pop remove reverse setdefault update sort add discard".split())

OPERATORS = set("""contains getitem or and xor add sub mul floordiv mod pow lshift rshift radd rsub rrshift lt le
gt ge ne neg pos invert abs bool eq len str repr""".split())

AT_ONCE = {"list", "tuple", "dict", "sorted", "sum", "any", "all", "enumerate", "zip", "bytes", "min", "max", "join"}

ITERATORS = {"zip", "enumerate", "reversed", "range", "items", "keys", "values"}


def called(node):
    """The name of what a call calls, or an empty string."""
    if not isinstance(node, ast.Call):
        return ""
    return node.func.id if isinstance(node.func, ast.Name) else getattr(node.func, "attr", "")


def parents(tree):
    """Each node with the one that it stands in."""
    return {inner: node for node in ast.walk(tree) for inner in ast.iter_child_nodes(node)}


@functools.cache
def functions():
    return [(path, node) for path, node in nodes(ast.FunctionDef)]


def assigned(function):
    """The names of the parameters and local variables of a function."""
    names = {row.arg for row in ast.walk(function.args) if isinstance(row, ast.arg)}
    for node in ast.walk(function):
        if isinstance(node, ast.Name) and not isinstance(node.ctx, ast.Load):
            names.add(node.id)
        if isinstance(node, ast.Lambda):
            names |= {row.arg for row in ast.walk(node.args) if isinstance(row, ast.arg)}
    return names


@functools.cache
def own_methods():
    return {row.name for _, node in nodes(ast.ClassDef) for row in node.body if isinstance(row, ast.FunctionDef)}


@functools.cache
def properties():
    return {row.name for _, node in nodes(ast.ClassDef) for row in node.body if isinstance(row, ast.FunctionDef)
            and any(isinstance(sign, ast.Name) and sign.id == "property" for sign in row.decorator_list)}


class TestNames(unittest.TestCase):

    def test_no_variable_has_the_name_of_a_class_or_an_import(self):
        for path, tree in trees():
            known = {name.asname or name.name for node in ast.walk(tree) if isinstance(node, ast.ImportFrom)
                     for name in node.names}
            known |= {node.name for node in tree.body if isinstance(node, ast.ClassDef)}
            for function in [node for node in ast.walk(tree) if isinstance(node, ast.FunctionDef)]:
                self.assertEqual(assigned(function) & (known | set(dir(builtins))) - {"_"}, set(), (path, function.name))

    def test_each_import_is_used(self):
        for path, tree in trees():
            used = {node.id for node in ast.walk(tree) if isinstance(node, ast.Name)}
            for node in ast.walk(tree):
                if isinstance(node, ast.ImportFrom):
                    self.assertEqual({name.name for name in node.names} - used, set(), path)

    def test_no_attribute_has_the_name_of_a_property(self):
        for path, node in nodes(ast.Attribute):
            if isinstance(node.ctx, ast.Store):
                self.assertNotIn(node.attr, properties() | own_methods(), (path, node.lineno))
        self.assertEqual(properties() & METHODS, set())

    def test_no_other_function_has_the_name_of_a_generator(self):
        generators = [node.name for _, node in functions()
                      if any(isinstance(inner, (ast.Yield, ast.YieldFrom)) for inner in ast.walk(node))]
        self.assertEqual(sorted(generators), ["passes", "readings"])
        names = [node.name for _, node in functions()]
        self.assertEqual([name for name in names if name in generators], generators)
        for path, node in nodes(ast.Name, ast.Attribute):
            self.assertNotIn(getattr(node, "id", getattr(node, "attr", None)), generators, (path, node.lineno))


class TestCalls(unittest.TestCase):

    def test_methods(self):
        for path, node in nodes(ast.Call):
            if isinstance(node.func, ast.Attribute):
                self.assertIn(node.func.attr, METHODS | own_methods(), (path, node.lineno))
                if node.func.attr not in own_methods():
                    self.assertEqual(node.keywords, [], (path, node.lineno))

    def test_what_is_iterated_at_once(self):
        for path, tree in trees():
            above = parents(tree)
            for node in ast.walk(tree):
                if called(node) in ITERATORS and not (called(node) in own_methods()):
                    outer = above[node]
                    right = isinstance(outer, (ast.For, ast.comprehension)) and outer.iter is node
                    right = right or called(outer) in AT_ONCE and outer.args[0] is node
                    right = right or called(outer) in {"reversed", "len"} and called(node) == "range"
                    self.assertTrue(right, (path, node.lineno))

    def test_sets(self):
        for path, tree in trees():
            above = parents(tree)
            for node in ast.walk(tree):
                if isinstance(node, (ast.Set, ast.SetComp)) or called(node) == "set":
                    outer = above[node]
                    right = called(outer) in {"sorted", "len"} or isinstance(outer, ast.Compare) and node in outer.comparators
                    self.assertTrue(right, (path, node.lineno))

    def test_what_leaves_a_block(self):
        found = [node for _, node in functions() if node.name == "__exit__"]
        self.assertEqual(len(found), 1)
        for node in ast.walk(found[0]):
            if isinstance(node, ast.Call):
                self.fail(node.lineno)
            if isinstance(node, ast.Compare):
                self.assertIsInstance(node.ops[0], (ast.Is, ast.IsNot))
            if isinstance(node, ast.stmt) and node is not found[0]:
                self.assertIsInstance(node, (ast.If, ast.Assign))
            if isinstance(node, ast.Name):
                self.assertIn(node.id, ("self", "kind"))

    def test_tables_of_functions(self):
        """What stands in a table is assigned to a name before it is called."""
        for path, node in nodes(ast.Call):
            self.assertIsInstance(node.func, (ast.Name, ast.Attribute), (path, node.lineno))
            if isinstance(node.func, ast.Attribute) and isinstance(node.func.value, ast.Constant):
                self.assertEqual(node.func.attr, "join", (path, node.lineno))

    def test_library(self):
        for path, node in nodes(ast.ImportFrom):
            if node.module in LIBRARY:
                self.assertLessEqual({name.name for name in node.names},
                                     {"heappush", "heappop", "heapify", "gcd", "product", "combinations", "permutations"})


class TestOperators(unittest.TestCase):
    """What an operator or a property runs changes nothing but lists and dicts that it made itself."""

    def reached(self):
        """All functions that operators and properties run, by their names."""
        known = {}
        for _, node in functions():
            known.setdefault(node.name, []).append(node)
        for _, node in nodes(ast.ClassDef):
            known.setdefault(node.name, []).extend(row for row in node.body if getattr(row, "name", "") == "__init__")
        waiting = [node for name in known for node in known[name]
                   if name in properties() or name.strip("_") in OPERATORS and name.startswith("__")]
        found = []
        while waiting:
            function = waiting.pop()
            if function not in found:
                found.append(function)
                for node in ast.walk(function):
                    waiting.extend(known.get(called(node), []))
        return found

    def made(self, function):
        """The local names that are assigned a new list or dict, and nothing else."""
        told = {}
        for node in ast.walk(function):
            if isinstance(node, ast.Assign):
                for target in node.targets:
                    if isinstance(target, ast.Name):
                        new = isinstance(node.value, (ast.List, ast.Dict, ast.ListComp)) \
                            or called(node.value) in {"list", "dict", "sorted"}
                        told[target.id] = told.get(target.id, True) and new
        return {name for name in told if told[name]}

    def test_nothing_is_changed(self):
        found = self.reached()
        self.assertGreater(len(found), 40)
        for function in found:
            made = self.made(function)
            for node in ast.walk(function):
                place = (function.name, getattr(node, "lineno", 0))
                if isinstance(node, (ast.Subscript, ast.Attribute)) and not isinstance(node.ctx, ast.Load):
                    name = getattr(node.value, "id", None)
                    self.assertTrue(name in made or name == "self" and function.name == "__init__", place)
                if isinstance(node, ast.Call) and isinstance(node.func, ast.Attribute) and node.func.attr in CHANGING:
                    self.assertIn(getattr(node.func.value, "id", None), made, place)
                if isinstance(node, ast.AugAssign):
                    self.assertIsInstance(node.value, ast.Constant, place)
                self.assertNotIsInstance(node, (ast.Yield, ast.Global, ast.Nonlocal))
                parameters = {row.arg for row in ast.walk(function.args) if isinstance(row, ast.arg)}
                if isinstance(node, ast.Call) and isinstance(node.func, ast.Name) and node.func.id != "cls":
                    self.assertNotIn(node.func.id, parameters, place)


if __name__ == "__main__":
    unittest.main()
