"""The form of the package's code: the rules of LANGUAGE.md, as far as they are easily seen."""

import ast
import builtins
import pathlib
import re
import unittest

PACKAGE = pathlib.Path(__file__).resolve().parent.parent / "lotprograms"

NODES = """Module Expr Constant ImportFrom alias FunctionDef ClassDef arguments arg Assign AugAssign If While For Return
    Break Continue Pass Raise Try ExceptHandler Name Load Store Attribute Subscript Slice Call List Tuple Dict BinOp
    UnaryOp BoolOp Compare IfExp ListComp comprehension And Or Not USub Add Sub Mult FloorDiv Mod Pow BitAnd BitOr BitXor
    LShift RShift Invert Eq NotEq Lt LtE Gt GtE In NotIn Is IsNot Lambda JoinedStr FormattedValue""".split()
PLAIN_VALUES = "Constant UnaryOp USub List Tuple Dict Load".split()
KEYWORDS = ("key", "reverse", "default", "start", "strict")
OWN_OF_PYTHON = """len range enumerate zip min max sum abs sorted reversed int str bool list tuple dict set frozenset
    isinstance ord repr any all divmod Exception ValueError KeyError IndexError LookupError ZeroDivisionError""".split()
METHODS = """append clear copy count endswith extend find get index insert isalnum isalpha isdigit islower isspace
    isupper items join keys ljust lower lstrip partition pop remove replace reverse rfind rjust rpartition rsplit
    rstrip setdefault split splitlines startswith strip update upper values zfill bit_length""".split()
MAY_BE_VALUES = "count index title find get join lower upper split strip copy add".split()
WORDS_NOWHERE = """type typing typing_extensions enum Enum IntEnum StrEnum Flag IntFlag Generic Protocol ABC ABCMeta
    namedtuple NamedTuple TypedDict TYPE_CHECKING abstractmethod""".split()
NAMES_NOWHERE = "register mro elements open input version_info with_traceback add_note format format_map args".split()
WALKED_AT_ONCE = ("zip", "enumerate", "reversed", "range")


def sources():
    return {path.stem: path.read_text("ascii") for path in sorted(PACKAGE.glob("*.py"))}


def trees():
    return {name: ast.parse(text) for name, text in sources().items()}


def functions_in(tree):
    return [node for node in ast.walk(tree) if isinstance(node, ast.FunctionDef)]


def classes_in(tree):
    return [node for node in tree.body if isinstance(node, ast.ClassDef)]


def bound_at_top(tree):
    names = [node.name for node in tree.body if isinstance(node, (ast.FunctionDef, ast.ClassDef))]
    for node in tree.body:
        if isinstance(node, ast.Assign):
            names += [target.id for target in node.targets]
    return names


def imported(tree):
    return {alias.name: node.module for node in tree.body if isinstance(node, ast.ImportFrom) for alias in node.names}


def bound_within(function):
    """Parameters and locals."""
    names = [parameter.arg for parameter in function.args.args]
    for node in ast.walk(function):
        if isinstance(node, ast.Name) and isinstance(node.ctx, ast.Store):
            names.append(node.id)
        if isinstance(node, ast.ExceptHandler) and node.name:
            names.append(node.name)
    return names


class Files(unittest.TestCase):
    def test_names(self):
        for path in PACKAGE.iterdir():
            if path.name != "__pycache__":
                self.assertRegex(path.name, r"^([a-z][a-z0-9_]*|__init__)\.py$")
                self.assertFalse(path.stem.startswith("test"))
                self.assertNotIn(path.stem, dir(builtins))
        self.assertIn("__init__", sources())

    def test_signs_and_sizes(self):
        for name, text in sources().items():
            self.assertRegex(text, r"\A[ -~\n]*\Z", name)
            self.assertLessEqual(text.count("\n"), 400, name)
            self.assertLessEqual(max(len(row) for row in text.split("\n")), 120, name)

    def test_words_that_stand_nowhere(self):
        for name, text in sources().items():
            words = set(re.findall(r"[A-Za-z0-9_]+", text))
            self.assertEqual(words & set(WORDS_NOWHERE), set(), name)
            self.assertNotRegex(text, "dataclass|overload|contextmanager")

    def test_functions_are_short(self):
        for name, tree in trees().items():
            for function in functions_in(tree):
                self.assertLessEqual(function.end_lineno - function.lineno + 1, 40, (name, function.name))


class Tops(unittest.TestCase):
    def test_nodes(self):
        for name, tree in trees().items():
            found = {type(node).__name__ for node in ast.walk(tree)}
            self.assertEqual(found - set(NODES), set(), name)

    def test_a_top_holds_plain_things_once(self):
        for name, tree in trees().items():
            for node in tree.body:
                self.assertIsInstance(node, (ast.Expr, ast.ImportFrom, ast.FunctionDef, ast.ClassDef, ast.Assign), name)
                if isinstance(node, ast.Assign):
                    found = {type(part).__name__ for part in ast.walk(node.value)}
                    self.assertEqual(found - set(PLAIN_VALUES), set(), (name, node.lineno))
                if isinstance(node, ast.Expr):
                    self.assertIsInstance(node.value.value, str)
            names = bound_at_top(tree) + list(imported(tree))
            self.assertEqual(len(names), len(set(names)), name)

    def test_imports_are_from_the_file_that_defines(self):
        everything = trees()
        for name, tree in everything.items():
            for word, module in imported(tree).items():
                self.assertRegex(module, r"^lotprograms\.[a-z]+$", name)
                self.assertIn(word, bound_at_top(everything[module.split(".")[1]]), name)

    def test_imports_are_used(self):
        for name, tree in trees().items():
            used = {node.id for node in ast.walk(tree) if isinstance(node, ast.Name)}
            self.assertEqual(set(imported(tree)) - used, set(), name)

    def test_imports_go_in_no_ring(self):
        drawn = {name: {module.split(".")[1] for module in imported(tree).values()} for name, tree in trees().items()}
        self.assertEqual(drawn["__init__"], set())
        while drawn:
            free = [name for name in drawn if not drawn[name] & set(drawn)]
            self.assertTrue(free, drawn)
            for name in free:
                drawn.pop(name)


class Functions(unittest.TestCase):
    def test_plain_parameters_and_no_decorators(self):
        for name, tree in trees().items():
            for function in functions_in(tree):
                given = function.args
                self.assertFalse(given.vararg or given.kwarg or given.kwonlyargs or given.posonlyargs, name)
                self.assertFalse(function.decorator_list or function.returns, name)
                self.assertFalse([parameter for parameter in given.args if parameter.annotation], name)

    def test_names_of_parameters_and_locals(self):
        for name, tree in trees().items():
            barred = set(dir(builtins)) | set(imported(tree)) | set(bound_at_top(tree))
            for function in functions_in(tree):
                for word in bound_within(function):
                    self.assertRegex(word, r"^[A-Za-z][A-Za-z0-9_]*$")
                    self.assertNotIn(word, barred, (name, function.name))

    def test_names_that_are_read(self):
        for name, tree in trees().items():
            known = set(OWN_OF_PYTHON) | set(imported(tree)) | set(bound_at_top(tree))
            for function in functions_in(tree):
                known |= set(bound_within(function))
            for node in ast.walk(tree):
                if isinstance(node, ast.Name):
                    self.assertIn(node.id, known, name)
                    self.assertNotIn(node.id, NAMES_NOWHERE, name)

    def test_one_target(self):
        for name, tree in trees().items():
            for node in ast.walk(tree):
                if isinstance(node, ast.Assign):
                    self.assertEqual(len(node.targets), 1, name)
                    self.assertNotIsInstance(node.targets[0], ast.Tuple, name)
                if isinstance(node, (ast.For, ast.While, ast.Try)):
                    self.assertFalse(node.orelse or getattr(node, "finalbody", None), name)

    def test_is_stands_beside_none(self):
        for name, tree in trees().items():
            for node in ast.walk(tree):
                if isinstance(node, ast.Compare) and isinstance(node.ops[0], (ast.Is, ast.IsNot)):
                    self.assertIsNone(node.comparators[0].value, name)

    def test_texts_and_numbers(self):
        for name, tree in trees().items():
            for node in ast.walk(tree):
                if isinstance(node, ast.Constant):
                    self.assertIn(type(node.value), (int, str, bool, type(None)), name)
                    self.assertNotIn("%", str(node.value), name)

    def test_walked_at_once(self):
        for name, tree in trees().items():
            held = [node.value for node in ast.walk(tree) if isinstance(node, (ast.Assign, ast.Return))]
            for value in held:
                if isinstance(value, ast.Call) and isinstance(value.func, ast.Name):
                    self.assertNotIn(value.func.id, WALKED_AT_ONCE, name)


class Classes(unittest.TestCase):
    def test_values_and_methods_have_names_of_their_own(self):
        methods = set()
        values = set()
        for tree in trees().values():
            for made in classes_in(tree):
                self.assertLessEqual(len(made.bases), 1)
                methods |= {node.name for node in made.body if isinstance(node, ast.FunctionDef)}
            for node in ast.walk(tree):
                if isinstance(node, ast.Attribute) and isinstance(node.ctx, ast.Store):
                    values.add(node.attr)
        of_python = {name for kind in (str, int, list, dict, set, bytes) for name in dir(kind)} - {"__init__"}
        self.assertEqual(methods & values, set())
        self.assertEqual(methods & of_python, set())
        self.assertEqual(values & of_python - set(MAY_BE_VALUES), set())
        self.assertEqual((methods | values) & set(NAMES_NOWHERE), set())

    def test_methods_that_are_called(self):
        own = {function.name for tree in trees().values() for made in classes_in(tree) for function in functions_in(made)}
        for name, tree in trees().items():
            for node in ast.walk(tree):
                if isinstance(node, ast.Call) and isinstance(node.func, ast.Attribute):
                    self.assertIn(node.func.attr, own | set(METHODS), name)
                if isinstance(node, ast.Call):
                    self.assertEqual([word.arg for word in node.keywords if word.arg not in KEYWORDS], [], name)


if __name__ == "__main__":
    unittest.main()
