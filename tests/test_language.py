"""Those rules of the language of the package that are plainly seen in its text; the others are for the reader."""

import ast
import builtins
import re
import unittest
from pathlib import Path

PACKAGE = Path(__file__).resolve().parent.parent / "warbleline"

BUILTINS = set(
    "len range enumerate zip min max sum abs sorted reversed int str bool bytes list tuple dict set frozenset "
    "isinstance ord repr any all divmod iter next super property staticmethod classmethod Exception ValueError "
    "TypeError KeyError IndexError LookupError ZeroDivisionError ArithmeticError OverflowError RuntimeError "
    "NotImplementedError AttributeError StopIteration NotImplemented".split())
METHODS = set(
    "append clear copy count endswith extend find get index insert isalnum isalpha isdigit islower isspace isupper "
    "items join keys ljust lower lstrip partition pop remove replace reverse rfind rjust rpartition rsplit rstrip "
    "setdefault split splitlines startswith strip update upper values zfill bit_length add discard sort".split())
ATTRIBUTES = set("count index title find get join lower upper split strip copy add".split())
OF_BUILTIN_VALUES = {name for kind in (str, int, list, tuple, dict, set, bytes) for name in dir(kind)}
DOUBLE = {f"__{name}__" for name in "init eq repr str len enter exit call iter".split()}
NOWHERE = set("register mro elements open input version_info with_traceback add_note".split())
NOT_AS_NAMES = set(
    "attrgetter breakpoint builtins compile copyright credits delattr dir eval exec exit gc getattr globals hasattr "
    "help id importlib license locals methodcaller os quit setattr type vars sys".split())
WORDS = re.compile(
    r"\b(type|typing|typing_extensions|enum|Enum|IntEnum|StrEnum|Flag|IntFlag|Generic|Protocol|ABC|ABCMeta|namedtuple|"
    r"NamedTuple|TypedDict|TYPE_CHECKING|abstractmethod)\b|dataclass|overload|contextmanager")


def sources():
    return {path: path.read_text(encoding="utf-8") for path in sorted(PACKAGE.rglob("*.py"))}


def trees():
    return {path: ast.parse(text) for path, text in sources().items()}


def nodes(tree, *kinds):
    return [node for node in ast.walk(tree) if isinstance(node, kinds)]


def bound_names(tree):
    """Parameters, variables and functions: all that a file gives a name by itself, but its classes and imports."""
    names = [node.id for node in nodes(tree, ast.Name) if not isinstance(node.ctx, ast.Load)]
    names += [node.arg for node in nodes(tree, ast.arg)]
    names += [node.name for node in nodes(tree, ast.ExceptHandler) if node.name]
    methods = {id(method) for kind in nodes(tree, ast.ClassDef) for method in kind.body}
    return names + [node.name for node in nodes(tree, ast.FunctionDef) if id(node) not in methods]


def own_methods():
    classes = [kind for tree in trees().values() for kind in nodes(tree, ast.ClassDef)]
    return {method.name for kind in classes for method in kind.body if isinstance(method, ast.FunctionDef)}


def own_attributes():
    found = [node for tree in trees().values() for node in nodes(tree, ast.Attribute)]
    return {node.attr for node in found if not isinstance(node.ctx, ast.Load)}


class TextTest(unittest.TestCase):
    def test_files(self):
        found = [path for path in PACKAGE.rglob("*") if "__pycache__" not in path.parts]
        self.assertIn(PACKAGE / "__init__.py", found)
        for path in found:
            self.assertRegex(path.name, r"^[a-z0-9_]+\.py$")

    def test_signs_and_sizes(self):
        for path, text in sources().items():
            lines = text.split("\n")
            self.assertRegex(text, r"\A[ -~\n]*\Z", path)
            self.assertLessEqual(len(lines), 401, path)
            self.assertLessEqual(max(len(line) for line in lines), 120, path)

    def test_words(self):
        for path, text in sources().items():
            self.assertIsNone(WORDS.search(text), path)

    def test_function_length(self):
        for path, tree in trees().items():
            for node in nodes(tree, ast.FunctionDef):
                self.assertLessEqual(node.end_lineno - node.lineno + 1, 40, (path, node.name))


class NamesTest(unittest.TestCase):
    def test_imports(self):
        for path, tree in trees().items():
            self.assertEqual(nodes(tree, ast.Import), [], path)
            for node in nodes(tree, ast.ImportFrom):
                self.assertIn(node, tree.body, path)
                self.assertEqual(node.level, 0, path)
                self.assertRegex(node.module, r"^warbleline\.[a-z]+$", path)
                self.assertNotIn("*", [alias.name for alias in node.names], path)

    def test_module_level(self):
        kinds = (ast.Expr, ast.ImportFrom, ast.FunctionDef, ast.ClassDef, ast.Assign)
        for path, tree in trees().items():
            for node in tree.body:
                self.assertIsInstance(node, kinds, (path, node.lineno))

    def test_own_names(self):
        for path, tree in trees().items():
            imports = [alias.asname or alias.name for node in nodes(tree, ast.ImportFrom) for alias in node.names]
            classes = [node.name for node in nodes(tree, ast.ClassDef)]
            barred = set(imports) | set(classes) | set(dir(builtins)) | NOWHERE | NOT_AS_NAMES
            for name in bound_names(tree):
                self.assertNotIn(name, barred, path)
                self.assertRegex(name, r"^[A-Za-z][A-Za-z0-9_]*$", path)

    def test_builtins(self):
        for path, tree in trees().items():
            for node in nodes(tree, ast.Name):
                if hasattr(builtins, node.id):
                    self.assertIn(node.id, BUILTINS, (path, node.lineno))

    def test_methods_and_attributes(self):
        methods, attributes = own_methods(), own_attributes()
        self.assertEqual(methods & attributes, set())
        self.assertEqual((methods - DOUBLE) & OF_BUILTIN_VALUES - METHODS, set())
        self.assertEqual(attributes & OF_BUILTIN_VALUES - ATTRIBUTES, set())
        self.assertEqual((methods | attributes) & (NOWHERE | {"args", "sort", "format"}), set())
        self.assertEqual([name for name in methods | attributes if name.startswith("_") and name not in DOUBLE], [])

    def test_methods_that_are_called(self):
        known = own_methods() | METHODS
        for path, tree in trees().items():
            for node in nodes(tree, ast.Call):
                if isinstance(node.func, ast.Attribute):
                    self.assertIn(node.func.attr, known, (path, node.lineno))


class ClassesTest(unittest.TestCase):
    # The methods that the document's interface lists for each class.
    listed = {
        "Reader": "take forget hurt waiting twin",
        "Scrambler": "push memory twin",
        "Descrambler": "push memory twin",
        "Book": "shorten lengthen pack unpack learnt twin __eq__ __len__ __repr__",
        "Wire": "shares beat hush twin __eq__ __repr__",
        "Shaper": "say past twin",
        "Mouth": "tell burst waiting turn_to twin",
        "Ear": "hear deaf hurt turn_to twin",
        "Link": "hand frame take waiting unanswered awaited idle twin",
        "Guard": "beat held twin",
        "Pair": "hand key back turn turns turn_to rate retrain quiet told untold hurt hang tape play twin __len__ "
                "__repr__",
        "Desk": "say pair",
    }

    def methods_of(self, kind):
        return [method.name for method in kind.body if isinstance(method, ast.FunctionDef)]

    def test_listed_methods_stand_in_the_class_itself(self):
        found = {kind.name: self.methods_of(kind) for tree in trees().values() for kind in nodes(tree, ast.ClassDef)}
        for name, methods in self.listed.items():
            self.assertEqual(set(methods.split()) - set(found[name]), set(), name)

    def test_double_underscore_methods(self):
        for path, tree in trees().items():
            for kind in nodes(tree, ast.ClassDef):
                methods = self.methods_of(kind)
                self.assertEqual(len(methods), len(set(methods)), (path, kind.name))
                self.assertEqual({name for name in methods if name.startswith("_")} - DOUBLE, set(), (path, kind.name))


class ExpressionsTest(unittest.TestCase):
    def test_no_generator_expressions(self):
        # Books have an __eq__, so lists are taken instead.
        for path, tree in trees().items():
            self.assertEqual([node.lineno for node in nodes(tree, ast.GeneratorExp)], [], path)

    def test_iterated_at_once(self):
        stored = {"zip", "enumerate", "reversed", "range", "items", "keys", "values"}
        for path, tree in trees().items():
            for node in nodes(tree, ast.Assign, ast.AugAssign, ast.Return):
                if isinstance(node.value, ast.Call):
                    called = node.value.func
                    name = called.id if isinstance(called, ast.Name) else getattr(called, "attr", "")
                    self.assertNotIn(name, stored, (path, node.lineno))

    def test_powers_are_literal(self):
        for path, tree in trees().items():
            for node in nodes(tree, ast.BinOp):
                if isinstance(node.op, ast.Pow):
                    self.assertIsInstance(node.right, ast.Constant, (path, node.lineno))

    def test_barred_forms(self):
        barred = (ast.Global, ast.AsyncFunctionDef, ast.Div, ast.Await)
        for path, tree in trees().items():
            self.assertEqual(nodes(tree, *barred), [], path)
            for node in nodes(tree, ast.Constant):
                self.assertNotIsInstance(node.value, (float, complex), (path, node.lineno))
                self.assertNotIn("%", str(node.value), (path, node.lineno))

    def test_is(self):
        for path, tree in trees().items():
            for node in nodes(tree, ast.Compare):
                if isinstance(node.ops[0], (ast.Is, ast.IsNot)):
                    sides = [node.left, *node.comparators]
                    plain = [side for side in sides if isinstance(side, ast.Constant)]
                    self.assertTrue(plain and plain[0].value in (None, True, False), (path, node.lineno))

    def test_raise_makes_its_error(self):
        for path, tree in trees().items():
            for node in nodes(tree, ast.Raise):
                if node.exc is not None:
                    self.assertIsInstance(node.exc, ast.Call, (path, node.lineno))
                    self.assertIsInstance(node.exc.func, ast.Name, (path, node.lineno))


if __name__ == "__main__":
    unittest.main()
