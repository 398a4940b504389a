"""The rules of LANGUAGE.md that a look at the files can check."""

import ast
import builtins
import pathlib
import re
import unittest

PACKAGE = pathlib.Path(__file__).resolve().parent.parent / "lamprota"
ORDER = ("errors", "books", "walk", "laying", "webs", "bookweb", "telling", "cheapest", "leasts", "even", "watch",
         "texts")
OWN_NAMES = set("""len range enumerate zip min max sum abs sorted reversed int str bool list tuple dict set frozenset
    isinstance ord repr any all divmod Exception ValueError TypeError KeyError IndexError LookupError
    ZeroDivisionError ArithmeticError OverflowError RuntimeError NotImplementedError AttributeError
    StopIteration""".split())
METHODS = set("""append clear copy count endswith extend find get index insert isalnum isalpha isdigit islower isspace
    isupper items join keys ljust lower lstrip partition pop remove replace reverse rfind rjust rpartition rsplit
    rstrip setdefault split splitlines startswith strip update upper values zfill bit_length""".split())
NODES = set("""Module Expr Constant ImportFrom alias FunctionDef arguments arg ClassDef Assign AugAssign If While For
    Return Break Continue Pass Raise Try ExceptHandler Call Attribute Subscript Slice List Tuple Dict Set BinOp UnaryOp
    BoolOp Compare IfExp Lambda ListComp comprehension JoinedStr FormattedValue Name Load Store keyword Add Sub Mult
    FloorDiv Mod Pow BitAnd BitOr BitXor LShift RShift Invert UAdd USub Not And Or Eq NotEq Lt LtE Gt GtE Is IsNot In
    NotIn""".split())
WALKED = {"zip", "enumerate", "reversed", "range"}
WALKERS = {"list", "tuple", "dict", "sorted", "sum", "any", "all", "enumerate", "zip", "min", "max"}
WORDS = set("""type typing typing_extensions enum Enum IntEnum StrEnum Flag IntFlag Generic Protocol ABC ABCMeta
    namedtuple NamedTuple TypedDict TYPE_CHECKING abstractmethod""".split())
TWO_UNDERSCORES = {"__init__", "__eq__", "__repr__", "__str__", "__len__"}


def files():
    return sorted(PACKAGE.glob("*.py"))


def trees():
    return [(file, ast.parse(file.read_text("ascii"))) for file in files()]


def nodes(*kinds):
    return [(file, node) for file, tree in trees() for node in ast.walk(tree) if isinstance(node, kinds)]


def top_names(tree):
    defined = [node.name for node in tree.body if isinstance(node, (ast.FunctionDef, ast.ClassDef))]
    return defined + [node.targets[0].id for node in tree.body if isinstance(node, ast.Assign)]


def imported(tree):
    return [alias.name for node in tree.body if isinstance(node, ast.ImportFrom) for alias in node.names]


def local_names(tree):
    for node in ast.walk(tree):
        if isinstance(node, ast.arg):
            yield node.arg, node.lineno
        if isinstance(node, ast.Name) and isinstance(node.ctx, ast.Store):
            yield node.id, node.lineno


class Files(unittest.TestCase):
    """L1, L10, L14 and the words of L17."""

    def test_the_folder_holds_plainly_named_files_alone(self):
        for path in PACKAGE.iterdir():
            if path.name != "__pycache__":
                self.assertRegex(path.name, r"^([a-z][a-z0-9_]*|__init__)\.py$")

    def test_signs_and_sizes(self):
        for file in files():
            text = file.read_bytes()
            self.assertTrue(all(sign == 10 or 32 <= sign <= 126 for sign in text), file)
            rows = text.decode("ascii").splitlines()
            self.assertLessEqual(len(rows), 400, file)
            self.assertLessEqual(max(len(row) for row in rows), 120, file)

    def test_functions_have_at_most_40_lines(self):
        for file, node in nodes(ast.FunctionDef):
            self.assertLessEqual(node.end_lineno - node.lineno + 1, 40, (file, node.name))

    def test_words_that_stand_nowhere(self):
        for file in files():
            text = file.read_text("ascii")
            self.assertEqual(WORDS & set(re.findall(r"\w+", text)), set(), file)
            self.assertNotRegex(text, "dataclass|overload|contextmanager")


class Tops(unittest.TestCase):
    """L2, L3, L15 and L16."""

    def test_imports_name_what_a_file_above_defines(self):
        defined = {file.stem: top_names(tree) for file, tree in trees()}
        for file, node in nodes(ast.ImportFrom):
            self.assertEqual(node.level, 0, file)
            package, source = node.module.split(".")
            self.assertEqual(package, "lamprota")
            self.assertLess(ORDER.index(source), ORDER.index(file.stem), file)
            for alias in node.names:
                self.assertIsNone(alias.asname, file)
                self.assertIn(alias.name, defined[source], file)

    def test_only_plain_things_stand_at_the_top_and_each_name_once(self):
        for file, tree in trees():
            self.assertIsNotNone(ast.get_docstring(tree), file)
            for node in tree.body[1:]:
                self.assertIsInstance(node, (ast.ImportFrom, ast.FunctionDef, ast.ClassDef, ast.Assign), file)
                if isinstance(node, ast.Assign):
                    ast.literal_eval(node.value)
            names = top_names(tree) + imported(tree)
            self.assertEqual(len(names), len(set(names)), file)

    def test_no_local_is_called_like_an_import_a_class_or_a_name_of_pythons(self):
        for file, tree in trees():
            classes = [node.name for node in tree.body if isinstance(node, ast.ClassDef)]
            taken = set(imported(tree)) | set(classes) | set(dir(builtins))
            for name, line in local_names(tree):
                self.assertNotIn(name, taken, (file, line))
                self.assertRegex(name, r"^[A-Za-z]\w*$", (file, line))


class Code(unittest.TestCase):
    """L4 to L8, L12, L18, L20, L22 to L27."""

    def test_only_nodes_of_the_rules(self):
        for file, node in nodes(ast.AST):
            self.assertIn(node.__class__.__name__, NODES, (file, getattr(node, "lineno", 0)))

    def test_values(self):
        for file, node in nodes(ast.Constant):
            self.assertIsInstance(node.value, (int, str, type(None)), (file, node.lineno))
            if isinstance(node.value, str):
                self.assertNotIn("%", node.value, (file, node.lineno))

    def test_functions_and_classes_are_plain(self):
        for file, node in nodes(ast.FunctionDef, ast.ClassDef):
            self.assertEqual(node.decorator_list, [], (file, node.name))
            if node.name not in TWO_UNDERSCORES:
                self.assertFalse(node.name.startswith("_"), (file, node.name))
        for file, node in nodes(ast.arguments):
            self.assertEqual((node.vararg, node.kwarg, node.kwonlyargs, node.posonlyargs), (None, None, [], []), file)
            self.assertTrue(all(arg.annotation is None for arg in node.args), file)

    def test_statements(self):
        for file, node in nodes(ast.Assign):
            self.assertEqual(len(node.targets), 1, (file, node.lineno))
        for file, node in nodes(ast.For, ast.While):
            self.assertEqual(node.orelse, [], (file, node.lineno))
        for file, node in nodes(ast.Try):
            self.assertEqual(node.finalbody, [], (file, node.lineno))
        for file, node in nodes(ast.ListComp):
            self.assertTrue(len(node.generators) == 1 and len(node.generators[0].ifs) <= 1, (file, node.lineno))

    def test_names_of_pythons_own(self):
        for file, node in nodes(ast.Name):
            if node.id in dir(builtins):
                self.assertIn(node.id, OWN_NAMES, (file, node.lineno))

    def test_methods_of_pythons_own_values(self):
        own = {node.name for file, node in nodes(ast.FunctionDef)}
        for file, node in nodes(ast.Call):
            if isinstance(node.func, ast.Attribute):
                self.assertIn(node.func.attr, METHODS | own, (file, node.lineno))

    def test_names_of_methods_and_values(self):
        """L18 and L26."""
        methods = {node.name for file, owner in nodes(ast.ClassDef) for node in owner.body
                   if isinstance(node, ast.FunctionDef)}
        values = {node.attr for file, node in nodes(ast.Attribute) if isinstance(node.ctx, ast.Store)}
        of_python = {name for kind in (str, int, list, dict, set, tuple, bytes) for name in dir(kind)}
        self.assertEqual(methods & values, set())
        self.assertEqual((methods - TWO_UNDERSCORES) & of_python, set())
        self.assertEqual(values & of_python, set())

    def test_is_stands_beside_none_true_and_false(self):
        for file, node in nodes(ast.Compare):
            if isinstance(node.ops[0], (ast.Is, ast.IsNot)):
                self.assertIn(ast.unparse(node.comparators[0]), ("None", "True", "False"), (file, node.lineno))

    def test_exponents_are_written(self):
        for file, node in nodes(ast.BinOp):
            if isinstance(node.op, ast.Pow):
                self.assertIn(ast.literal_eval(node.right), range(65), (file, node.lineno))

    def test_walkers_are_walked_on_the_spot(self):
        walked = [node.iter for file, node in nodes(ast.For, ast.comprehension)]
        for file, node in nodes(ast.Call):
            if isinstance(node.func, ast.Name) and node.func.id in WALKERS:
                walked.extend(node.args)
        spots = {(node.lineno, node.col_offset, ast.dump(node)) for node in walked}
        for file, node in nodes(ast.Call):
            if isinstance(node.func, ast.Name) and node.func.id in WALKED:
                self.assertIn((node.lineno, node.col_offset, ast.dump(node)), spots, (file, node.lineno))
