"""Point 1's "no clock, chance or files", and the rules of LANGUAGE.md that a walk over the source can see."""

import ast
import builtins
import pathlib
import re
import unittest

PACKAGE = pathlib.Path(__file__).resolve().parent.parent / "choosehall"
FILES = sorted(PACKAGE.glob("*.py"))

BUILT_IN = """len range enumerate zip min max sum abs sorted reversed int str bool list tuple dict set frozenset
isinstance ord repr any all divmod Exception ValueError TypeError KeyError IndexError LookupError
ZeroDivisionError ArithmeticError OverflowError RuntimeError NotImplementedError""".split()
METHODS = """append clear copy count endswith extend find get index insert isalnum isalpha isdigit islower isspace
isupper items join keys ljust lower lstrip partition pop remove replace reverse rfind rjust rpartition rsplit rstrip
setdefault split splitlines startswith strip update upper values zfill bit_length""".split()
OWN_DUNDERS = ["__init__", "__eq__", "__repr__", "__str__", "__len__"]
NODES = """Module ImportFrom alias FunctionDef ClassDef arguments arg Lambda Return Assign AugAssign If While For Break
Continue Pass Raise Try ExceptHandler Expr Call Attribute Subscript Slice Name Load Store Constant List Tuple Dict Set
ListComp comprehension IfExp BoolOp And Or UnaryOp Not USub Invert BinOp Add Sub Mult FloorDiv Mod Pow BitAnd BitOr
BitXor LShift RShift Compare Eq NotEq Lt LtE Gt GtE Is IsNot In NotIn JoinedStr FormattedValue keyword""".split()
WORDS = """type typing typing_extensions enum Enum IntEnum StrEnum Flag IntFlag Generic Protocol ABC ABCMeta
namedtuple NamedTuple TypedDict TYPE_CHECKING abstractmethod""".split()
PARTS = ["dataclass", "overload", "contextmanager"]
WALKED_AT_ONCE = ["zip", "enumerate", "reversed", "range", "items", "keys", "values"]
WALKERS = ["list", "tuple", "dict", "sorted", "sum", "any", "all", "enumerate", "zip", "min", "max", "join"]
SET_HOLDERS = ["sorted", "len"]


def names_bound(tree):
    bound = []
    for node in ast.walk(tree):
        if isinstance(node, (ast.FunctionDef, ast.ClassDef)):
            bound.append(node.name)
        elif isinstance(node, ast.arg):
            bound.append(node.arg)
        elif isinstance(node, ast.Name) and isinstance(node.ctx, ast.Store):
            bound.append(node.id)
        elif isinstance(node, ast.ExceptHandler) and node.name:
            bound.append(node.name)
        elif isinstance(node, ast.alias):
            bound.append(node.asname or node.name)
    return bound


def called_name(node):
    # The name of what is called, be it a function or a method; None where the node is no call.
    if not isinstance(node, ast.Call):
        return None
    return node.func.attr if isinstance(node.func, ast.Attribute) else getattr(node.func, "id", None)


def drawn_from(path):
    tree = ast.parse(path.read_text(encoding="ascii"))
    return sorted(node.module.split(".")[-1] for node in tree.body if isinstance(node, ast.ImportFrom))


def above(tree):
    return {child: parent for parent in ast.walk(tree) for child in ast.iter_child_nodes(parent)}


class Form(unittest.TestCase):
    def walked(self, *kinds):
        for path in FILES:
            tree = ast.parse(path.read_text(encoding="ascii"))
            for node in ast.walk(tree):
                if isinstance(node, kinds or ast.AST):
                    yield path.name, tree, node

    def test_only_plain_files_lie_in_the_package(self):
        here = sorted(path.name for path in PACKAGE.iterdir() if path.name != "__pycache__")
        self.assertEqual(here, [path.name for path in FILES])
        self.assertIn("__init__.py", here)
        for name in here:
            self.assertRegex(name, r"\A(__init__|__main__|[a-z][a-z0-9_]*)\.py\Z")

    def test_imports_are_the_packages_own(self):
        for file, tree, node in self.walked(ast.Import, ast.ImportFrom):
            self.assertIsInstance(node, ast.ImportFrom, file)
            self.assertIn(node, tree.body, file)
            self.assertEqual(node.level, 0, file)
            source = PACKAGE.parent / (node.module.replace(".", "/") + ".py")
            self.assertIn(source, FILES, file)
            defined = names_bound(ast.parse(source.read_text(encoding="ascii")))
            for alias in node.names:
                self.assertIn(alias.name, defined, file)

    def test_no_two_files_draw_from_one_another(self):
        left = {path.stem: drawn_from(path) for path in FILES}
        while left:
            # A file that draws from none of those left can go; where none can, some draw from one another in a ring.
            free = [name for name in left if not any(source in left for source in left[name])]
            self.assertNotEqual(free, [], left)
            left = {name: left[name] for name in left if name not in free}

    def test_no_kind_of_row_or_value_but_the_listed_ones(self):
        for file, tree, node in self.walked():
            self.assertIn(type(node).__name__, NODES, (file, getattr(node, "lineno", 0)))

    def test_values_are_whole_numbers_and_texts(self):
        for file, tree, node in self.walked(ast.Constant):
            self.assertIn(type(node.value), (int, str, bool, type(None)), (file, node.lineno))

    def test_only_the_listed_names_of_pythons_own(self):
        for file, tree, node in self.walked(ast.Name):
            self.assertIn(node.id, names_bound(tree) + BUILT_IN, (file, node.lineno))

    def test_no_name_is_given_another_meaning_or_a_line_ahead(self):
        for path in FILES:
            for name in names_bound(ast.parse(path.read_text(encoding="ascii"))):
                if name not in OWN_DUNDERS:
                    self.assertNotIn(name, dir(builtins), path.name)
                    self.assertRegex(name, r"\A[A-Za-z][A-Za-z0-9_]*\Z", path.name)

    def test_no_parameter_or_local_is_called_like_a_class_or_import(self):
        for path in FILES:
            tree = ast.parse(path.read_text(encoding="ascii"))
            tops = [name for row in tree.body for name in names_bound(row) if isinstance(row, ast.ImportFrom)]
            tops += [row.name for row in tree.body if isinstance(row, (ast.ClassDef, ast.FunctionDef))]
            self.assertEqual(len(tops), len(set(tops)), path.name)
            for node in ast.walk(tree):
                if isinstance(node, ast.arg):
                    self.assertNotIn(node.arg, tops, path.name)
                elif isinstance(node, ast.Name) and isinstance(node.ctx, ast.Store):
                    self.assertNotIn(node.id, tops, path.name)

    def test_no_name_is_a_method_and_a_value(self):
        bodies = [node.body for file, tree, node in self.walked(ast.ClassDef)]
        methods = [row.name for body in bodies for row in body if isinstance(row, ast.FunctionDef)]
        for file, tree, node in self.walked(ast.Attribute):
            if isinstance(node.ctx, ast.Store):
                self.assertNotIn(node.attr, methods, (file, node.lineno))

    def test_what_python_walks_is_walked_at_once(self):
        for file, tree, node in self.walked(ast.Call):
            if called_name(node) in WALKED_AT_ONCE:
                parent = above(tree)[node]
                looped = isinstance(parent, (ast.For, ast.comprehension)) and parent.iter is node
                handed = called_name(parent) in WALKERS and parent.args[0] is node
                self.assertTrue(looped or handed, (file, node.lineno))

    def test_sets_are_not_kept(self):
        for file, tree, node in self.walked(ast.Call):
            if called_name(node) in ("set", "frozenset"):
                parent = above(tree)[node]
                asked = isinstance(parent, ast.Compare)
                self.assertTrue(asked or called_name(parent) in SET_HOLDERS, (file, node.lineno))

    def test_only_listed_or_own_methods_are_called(self):
        own = [node.name for file, tree, node in self.walked(ast.FunctionDef)]
        for file, tree, node in self.walked(ast.Call):
            if isinstance(node.func, ast.Attribute):
                self.assertIn(node.func.attr, own + METHODS, (file, node.lineno))

    def test_plain_parameters_and_no_decorator(self):
        for file, tree, node in self.walked(ast.FunctionDef, ast.ClassDef):
            self.assertEqual(node.decorator_list, [], (file, node.name))
            if isinstance(node, ast.FunctionDef):
                given = node.args
                self.assertEqual((given.vararg, given.kwarg, given.kwonlyargs, given.posonlyargs), (None, None, [], []))

    def test_classes_hold_methods_alone(self):
        for file, tree, node in self.walked(ast.ClassDef):
            self.assertIn(node, tree.body, file)
            self.assertLessEqual(len(node.bases), 1, file)
            for row in node.body:
                self.assertIsInstance(row, (ast.FunctionDef, ast.Pass), (file, node.name))

    def test_one_target_in_an_assignment(self):
        for file, tree, node in self.walked(ast.Assign):
            self.assertEqual(len(node.targets), 1, (file, node.lineno))

    def test_is_stands_beside_none_true_and_false(self):
        for file, tree, node in self.walked(ast.Compare):
            for sign, right in zip(node.ops, node.comparators):
                if isinstance(sign, (ast.Is, ast.IsNot)):
                    self.assertIsInstance(right, ast.Constant, (file, node.lineno))
                    self.assertIn(right.value, (None, True, False), (file, node.lineno))

    def test_sizes_and_signs(self):
        for path in FILES:
            rows = path.read_text(encoding="ascii").split("\n")
            self.assertLessEqual(len(rows), 400, path.name)
            for row in rows:
                self.assertRegex(row, r"\A[ -~]{0,120}\Z", path.name)
        for file, tree, node in self.walked(ast.FunctionDef):
            self.assertLessEqual(node.end_lineno - node.lineno + 1, 40, (file, node.name))

    def test_words_that_stand_nowhere(self):
        for path in FILES:
            text = path.read_text(encoding="ascii")
            for word in re.findall(r"[A-Za-z0-9_]+", text):
                self.assertNotIn(word, WORDS, path.name)
            for part in PARTS:
                self.assertNotIn(part, text, path.name)


if __name__ == "__main__":
    unittest.main()
