"""Some rules of LANGUAGE.md that can be seen in the syntax of the package's files, by their numbers; not all of them."""

import ast
import builtins
import pathlib
import re
import unittest

import needfill

FOLDER = pathlib.Path(needfill.__file__).parent
FILES = sorted(FOLDER.glob("*.py"))
TREES = {path.name: ast.parse(path.read_text()) for path in FILES}

BUILTINS = set(
    "len range enumerate zip min max sum abs sorted reversed int str bool bytes list tuple dict set frozenset isinstance"
    " ord repr any all divmod Exception ValueError TypeError KeyError IndexError LookupError ZeroDivisionError"
    " ArithmeticError OverflowError RuntimeError NotImplementedError AttributeError StopIteration NotImplemented"
    " iter next".split())
METHODS = set(
    "append clear copy count endswith extend find get index insert isalnum isalpha isdigit islower isspace isupper items"
    " join keys ljust lower lstrip partition pop remove replace reverse rfind rjust rpartition rsplit rstrip setdefault"
    " split splitlines startswith strip update upper values zfill bit_length title capitalize swapcase casefold center"
    " expandtabs removeprefix removesuffix rindex isascii isdecimal isnumeric istitle isidentifier isprintable".split())
BARRED_WORDS = (
    r"\b(type|typing|typing_extensions|enum|Enum|IntEnum|StrEnum|Flag|IntFlag|Generic|Protocol|ABC|ABCMeta|namedtuple"
    r"|NamedTuple|TypedDict|TYPE_CHECKING|abstractmethod)\b|dataclass|overload|contextmanager")
BARRED_NAMES = set(
    "register mro elements open input version_info with_traceback add_note attrgetter breakpoint builtins compile"
    " copyright credits delattr dir eval exec exit gc getattr globals hasattr help id importlib license locals"
    " methodcaller os quit setattr type vars sys".split())
BARRED_SYNTAX = (
    ast.Global, ast.AsyncFunctionDef, ast.AsyncFor, ast.AsyncWith, ast.Await, ast.Import, ast.Div, ast.GeneratorExp)
DUNDERS = {"__init__", "__eq__", "__repr__", "__str__", "__len__", "__enter__", "__exit__", "__call__", "__iter__"}


def nodes(kind):
    """All nodes of that kind in the package, each with its file's name."""
    return [(file, node) for file, tree in TREES.items() for node in ast.walk(tree) if isinstance(node, kind)]


def bound_names(tree):
    """All names that a file binds anywhere."""
    found = set()
    for node in ast.walk(tree):
        if isinstance(node, ast.Name) and isinstance(node.ctx, ast.Store):
            found.add(node.id)
        elif isinstance(node, ast.arg):
            found.add(node.arg)
        elif isinstance(node, (ast.FunctionDef, ast.ClassDef)):
            found.add(node.name)
        elif isinstance(node, ast.ImportFrom):
            found.update(alias.name for alias in node.names)
        elif isinstance(node, ast.ExceptHandler) and node.name:
            found.add(node.name)
    return found


def local_names(tree):
    """The parameters and local variables of all functions of a file."""
    found = set()
    for function in ast.walk(tree):
        if isinstance(function, (ast.FunctionDef, ast.Lambda)):
            found |= {node.id for node in ast.walk(function)
                      if isinstance(node, ast.Name) and isinstance(node.ctx, ast.Store)}
            found |= {node.arg for node in ast.walk(function) if isinstance(node, ast.arg)}
    return found


class Files(unittest.TestCase):
    def test_l1_l14_only_files_with_plain_names(self):
        for path in FOLDER.iterdir():
            if path.name != "__pycache__":
                self.assertRegex(path.name, r"\A([a-z][a-z0-9_]*|__init__|__main__)\.py\Z")

    def test_l10_sizes(self):
        for path in FILES:
            rows = path.read_text().split("\n")
            self.assertLessEqual(len(rows) - 1, 400, path)
            for row in rows:
                self.assertLessEqual(len(row), 120, (path, row))
        for file, node in nodes(ast.FunctionDef):
            self.assertLessEqual(node.end_lineno - node.lineno + 1, 40, (file, node.name))

    def test_l14_l27_signs(self):
        for path in FILES:
            text = path.read_text()
            self.assertRegex(text, r"\A[ -~\n]*\Z", path)
            self.assertNotRegex(text, r"\\[^nt\\'\"]", path)
        for file, node in nodes(ast.Constant):
            self.assertNotIsInstance(node.value, float, file)
            if isinstance(node.value, str):
                self.assertNotIn("%", node.value, file)

    def test_l17_words(self):
        for path in FILES:
            self.assertIsNone(re.search(BARRED_WORDS, path.read_text()), path)


class Syntax(unittest.TestCase):
    def test_l2_l16_imports(self):
        above = {}
        for file, node in nodes(ast.ImportFrom):
            self.assertEqual(node.level, 0)
            self.assertRegex(node.module, r"\Aneedfill\.[a-z_]+\Z")
            self.assertIn(node, TREES[file].body)
            where = node.module.split(".")[1] + ".py"
            above.setdefault(file, set()).add(where)
            defined = [part for part in TREES[where].body if not isinstance(part, ast.ImportFrom)]
            for alias in node.names:
                self.assertIsNone(alias.asname)
                self.assertIn(alias.name, bound_names(ast.Module(defined, [])), file)
        left = set(TREES)
        while left:
            free = {file for file in left if not above.get(file, set()) & left}
            self.assertTrue(free, f"these import one another: {left}")
            left -= free

    def test_l3_module_level(self):
        for file, tree in TREES.items():
            for at, node in enumerate(tree.body):
                if isinstance(node, ast.Expr):
                    self.assertEqual(at, 0, file)
                else:
                    self.assertIsInstance(node, (ast.ImportFrom, ast.FunctionDef, ast.ClassDef, ast.Assign), file)
            names = [node.name for node in tree.body if isinstance(node, (ast.FunctionDef, ast.ClassDef))]
            names += [target.id for node in tree.body if isinstance(node, ast.Assign) for target in node.targets]
            names += [alias.name for node in tree.body if isinstance(node, ast.ImportFrom) for alias in node.names]
            self.assertEqual(len(names), len(set(names)), file)

    def test_l6_l7_what_is_not_written(self):
        # L7: generator expressions are barred here altogether, since any, all and the like take lists beside __eq__.
        self.assertEqual(nodes(BARRED_SYNTAX), [])

    def test_l8_builtins(self):
        for file, node in nodes(ast.Name):
            if node.id not in bound_names(TREES[file]):
                self.assertIn(node.id, BUILTINS, file)

    def test_l8_l12_l17_names(self):
        for file, tree in TREES.items():
            for word in bound_names(tree) - DUNDERS:
                self.assertRegex(word, r"\A[A-Za-z][A-Za-z0-9_]*\Z", file)
                self.assertNotIn(word, BARRED_NAMES, file)
                self.assertFalse(hasattr(builtins, word), (file, word))

    def test_l15_locals_hide_no_class_and_no_import(self):
        for file, tree in TREES.items():
            there = {node.name for node in tree.body if isinstance(node, ast.ClassDef)}
            there |= {alias.name for node in tree.body if isinstance(node, ast.ImportFrom) for alias in node.names}
            self.assertEqual(local_names(tree) & there, set(), file)

    def test_l19_handlers_and_raises(self):
        own = {node.name for file, node in nodes(ast.ClassDef)}
        for file, node in nodes(ast.ExceptHandler):
            for error in node.type.elts if isinstance(node.type, ast.Tuple) else [node.type]:
                self.assertIn(error.id, own, (file, node.lineno))
        for file, node in nodes(ast.Raise):
            self.assertIsInstance(node.exc, ast.Call, (file, node.lineno))
            self.assertIn(node.exc.func.id, own, (file, node.lineno))
            self.assertIsNone(node.cause)

    def test_l24_sets_are_counted_or_compared_at_once(self):
        fine = set()
        for file, node in nodes(ast.Call):
            if isinstance(node.func, ast.Name) and node.func.id in ("len", "sorted"):
                fine.update(node.args)
        for file, node in nodes((ast.Set, ast.SetComp)):
            self.assertIn(node, fine, (file, node.lineno))
        for file, node in nodes(ast.Call):
            if isinstance(node.func, ast.Name) and node.func.id in ("set", "frozenset"):
                self.assertIn(node, fine, (file, node.lineno))

    def test_l28_len(self):
        for file, node in nodes(ast.FunctionDef):
            if node.name == "__len__":
                self.assertEqual([type(part) for part in node.body], [ast.Return])
                self.assertEqual(node.body[0].value.func.id, "len")

    def test_l20_is(self):
        for file, node in nodes(ast.Compare):
            for sign, side in zip(node.ops, node.comparators):
                if isinstance(sign, (ast.Is, ast.IsNot)):
                    self.assertIsInstance(side, ast.Constant, (file, node.lineno))
                    self.assertIn(side.value, (None, True, False))

    def test_l23_iterated_at_once(self):
        fine = ("list", "tuple", "dict", "sorted", "sum", "any", "all", "enumerate", "zip")
        for file, tree in TREES.items():
            at_once = set()
            for node in ast.walk(tree):
                if isinstance(node, (ast.For, ast.comprehension)):
                    at_once.add(node.iter)
                elif isinstance(node, ast.Call) and isinstance(node.func, ast.Name) and node.func.id in fine:
                    at_once.update(node.args[:1])
            for node in ast.walk(tree):
                if isinstance(node, ast.Call) and isinstance(node.func, ast.Name):
                    if node.func.id in ("zip", "enumerate", "reversed", "range"):
                        self.assertIn(node, at_once, (file, node.lineno))

    def test_l25_methods(self):
        own = {node.name for file, node in nodes(ast.FunctionDef)}
        for file, node in nodes(ast.Call):
            if isinstance(node.func, ast.Attribute):
                self.assertIn(node.func.attr, METHODS | own, (file, node.lineno))

    def test_l18_methods_and_attributes_have_their_own_names(self):
        methods = {part.name for file, node in nodes(ast.ClassDef) for part in node.body
                   if isinstance(part, ast.FunctionDef)}
        stored = {node.attr for file, node in nodes(ast.Attribute) if isinstance(node.ctx, ast.Store)}
        self.assertEqual(methods & stored, set())


if __name__ == "__main__":
    unittest.main()
