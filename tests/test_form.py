"""The form of the package's files: the rules of the language that can be seen by reading."""

import ast
import builtins
import pathlib
import re
import unittest

PACKAGE = pathlib.Path(__file__).resolve().parent.parent / "pinchanneldesk"

NODES = set(
    "Module FunctionDef ClassDef arguments arg Return Assign AugAssign For While If Raise Try ExceptHandler"
    " Pass Break Continue Expr Call Attribute Name Constant Subscript Slice List Tuple Dict ListComp"
    " comprehension BinOp UnaryOp BoolOp Compare IfExp Lambda ImportFrom alias JoinedStr FormattedValue"
    " Load Store Add Sub Mult FloorDiv Mod Pow BitAnd BitOr BitXor LShift RShift Invert Not USub UAdd"
    " And Or Eq NotEq Lt LtE Gt GtE Is IsNot In NotIn keyword".split()
)
OWN_NAMES_OF_PYTHON = set(
    "len range enumerate zip min max sum abs sorted reversed int str bool list tuple dict set frozenset"
    " isinstance ord repr any all divmod Exception ValueError TypeError KeyError IndexError LookupError"
    " ZeroDivisionError ArithmeticError OverflowError RuntimeError NotImplementedError AttributeError"
    " StopIteration True False None".split()
)
METHODS = set(
    "append clear copy count endswith extend find get index insert isalnum isalpha isdigit islower isspace"
    " isupper items join keys ljust lower lstrip partition pop remove replace reverse rfind rjust rpartition"
    " rsplit rstrip setdefault split splitlines startswith strip update upper values zfill bit_length".split()
)
SPECIAL_METHODS = {"__init__", "__eq__", "__repr__", "__str__", "__len__"}
WORDS = re.compile(
    r"\b(type|typing|typing_extensions|enum|Enum|IntEnum|StrEnum|Flag|IntFlag|Generic|Protocol|ABC|ABCMeta"
    r"|namedtuple|NamedTuple|TypedDict|TYPE_CHECKING|abstractmethod)\b|dataclass|overload|contextmanager"
)
NOT_USED = set(
    "register mro elements open input version_info with_traceback add_note attrgetter breakpoint builtins compile"
    " copyright credits delattr dir eval exec exit gc getattr globals hasattr help id importlib license locals"
    " methodcaller os quit setattr super vars sys __name__".split()
)
WALKED = {"zip", "enumerate", "reversed", "range"}
WALKERS = {"list", "tuple", "dict", "sorted", "sum", "any", "all", "enumerate", "zip", "min", "max"}
KEYWORDS = {
    "sorted": {"key", "reverse"}, "min": {"key", "default"}, "max": {"key", "default"}, "sum": {"start"},
    "enumerate": {"start"}, "zip": {"strict"},
}
PLAIN_NAME = re.compile(r"[A-Za-z][A-Za-z0-9_]*\Z")


def sources():
    return sorted(path for path in PACKAGE.rglob("*") if "__pycache__" not in path.parts)


def trees():
    return [(path.name, ast.parse(path.read_text("utf-8"))) for path in sources()]


def nodes(kind):
    return [(name, node) for name, tree in trees() for node in ast.walk(tree) if isinstance(node, kind)]


def called(node):
    """The name that a call by name calls, None of anything else."""
    return node.func.id if isinstance(node, ast.Call) and isinstance(node.func, ast.Name) else None


def parents(tree):
    return {part: node for node in ast.walk(tree) for part in ast.iter_child_nodes(node)}


def is_walked(node, parent):
    """Whether what the node gives is walked on the spot, by a loop or by something that is called."""
    if isinstance(parent, (ast.For, ast.comprehension)):
        return parent.iter is node
    return called(parent) in WALKERS and parent.args[0] is node or called(parent) == "zip"


def bound_names(tree):
    """All names that a file binds: its own, its imports', its parameters and its locals."""
    names = []
    for node in ast.walk(tree):
        if isinstance(node, (ast.FunctionDef, ast.ClassDef)):
            names.append(node.name)
        elif isinstance(node, ast.arg):
            names.append(node.arg)
        elif isinstance(node, ast.Name) and isinstance(node.ctx, ast.Store):
            names.append(node.id)
        elif isinstance(node, ast.alias):
            names.append(node.asname or node.name)
    return names


class Form(unittest.TestCase):
    def test_files(self):
        names = [path.name for path in sources()]
        self.assertIn("__init__.py", names)
        self.assertIn("channel.py", names)
        for name in names:
            self.assertRegex(name, r"\A(__init__|[a-z][a-z0-9_]*)\.py\Z")
            self.assertFalse(name[:-3] in vars(builtins), name)

    def test_signs_and_sizes(self):
        for path in sources():
            text = path.read_text("utf-8")
            rows = text.split("\n")
            self.assertLessEqual(len(rows), 400, path.name)
            self.assertTrue(all(len(row) <= 120 for row in rows), path.name)
            self.assertRegex(text, r"\A[ -~\n]*\Z", path.name)
            self.assertIsNone(WORDS.search(text), path.name)
        for name, node in nodes(ast.FunctionDef):
            self.assertLessEqual(node.end_lineno - node.lineno + 1, 40, (name, node.name))

    def test_parts_of_the_language(self):
        for name, node in nodes(ast.AST):
            kind = node.__class__.__name__
            self.assertIn(kind, NODES, (name, getattr(node, "lineno", 0)))
        for name, node in nodes(ast.Assign):
            self.assertEqual(len(node.targets), 1, (name, node.lineno))
        for name, node in nodes((ast.For, ast.While)):
            self.assertEqual(node.orelse, [], (name, node.lineno))
        for name, node in nodes((ast.FunctionDef, ast.ClassDef)):
            self.assertEqual(node.decorator_list, [], (name, node.lineno))
        for name, node in nodes(ast.Constant):
            self.assertIsInstance(node.value, (int, str, bool, type(None)), (name, node.lineno))
            self.assertNotIn("%", str(node.value), (name, node.lineno))

    def test_functions_are_plain(self):
        for name, node in nodes(ast.arguments):
            self.assertEqual((node.vararg, node.kwarg, node.kwonlyargs, node.posonlyargs), (None, None, [], []), name)
        for name, node in nodes(ast.comprehension):
            self.assertLessEqual(len(node.ifs), 1, name)
        for name, node in nodes(ast.ListComp):
            self.assertEqual(len(node.generators), 1, (name, node.lineno))

    def test_imports(self):
        for name, tree in trees():
            for node in ast.walk(tree):
                if isinstance(node, ast.ImportFrom):
                    self.assertIn(node, tree.body, name)
                    self.assertEqual(node.level, 0, name)
                    self.assertTrue(node.module.startswith("pinchanneldesk."), (name, node.module))

    def test_names(self):
        for name, tree in trees():
            bound = bound_names(tree)
            for word in bound:
                self.assertTrue(PLAIN_NAME.match(word) or word in SPECIAL_METHODS, (name, word))
                self.assertFalse(word in vars(builtins), (name, word))
            for node in ast.walk(tree):
                if isinstance(node, ast.Name) and node.id not in bound:
                    self.assertIn(node.id, OWN_NAMES_OF_PYTHON, (name, node.lineno))

    def test_each_name_once_at_the_top(self):
        for name, tree in trees():
            top = [word for node in tree.body for word in bound_names(ast.Module([node], []))
                   if isinstance(node, (ast.Assign, ast.ImportFrom))]
            top += [node.name for node in tree.body if isinstance(node, (ast.FunctionDef, ast.ClassDef))]
            self.assertEqual(len(top), len(set(top)), name)

    def test_methods(self):
        own = {
            part.name for name, node in nodes(ast.ClassDef)
            for part in node.body if isinstance(part, ast.FunctionDef)
        }
        for name, node in nodes(ast.Call):
            if isinstance(node.func, ast.Attribute):
                self.assertIn(node.func.attr, METHODS | own, (name, node.lineno))
        for name, node in nodes(ast.Attribute):
            self.assertRegex(node.attr, PLAIN_NAME, (name, node.lineno))
            if isinstance(node.ctx, ast.Store):
                self.assertNotIn(node.attr, METHODS | own, (name, node.lineno))

    def test_names_that_are_not_used(self):
        for name, node in nodes((ast.Name, ast.Attribute)):
            word = node.id if isinstance(node, ast.Name) else node.attr
            self.assertNotIn(word, NOT_USED, (name, node.lineno))

    def test_walked_at_once(self):
        for name, tree in trees():
            above = parents(tree)
            for node in ast.walk(tree):
                if called(node) in WALKED:
                    self.assertTrue(is_walked(node, above[node]), (name, node.lineno))
                if called(node) == "set":
                    self.assertIn(called(above[node]), ("sorted", "len"), (name, node.lineno))
                self.assertNotIsInstance(node, (ast.Set, ast.Pow), name)

    def test_keywords(self):
        for name, node in nodes(ast.Call):
            given = {word.arg for word in node.keywords}
            self.assertLessEqual(given, KEYWORDS.get(called(node), set()), (name, node.lineno))

    def test_no_local_is_called_like_a_class_or_an_import(self):
        for name, tree in trees():
            taken = {node.name for node in tree.body if isinstance(node, ast.ClassDef)}
            taken |= {part.name for node in tree.body if isinstance(node, ast.ImportFrom) for part in node.names}
            for node in ast.walk(tree):
                if isinstance(node, ast.arg):
                    self.assertNotIn(node.arg, taken, name)
                if isinstance(node, ast.Name) and isinstance(node.ctx, ast.Store):
                    self.assertNotIn(node.id, taken, (name, node.lineno))

    def test_imports_come_from_the_file_that_defines(self):
        defined = {}
        for name, tree in trees():
            defined["pinchanneldesk." + name[:-3]] = {
                part.name for part in tree.body if isinstance(part, (ast.FunctionDef, ast.ClassDef))
            }
        for name, node in nodes(ast.ImportFrom):
            for part in node.names:
                self.assertIn(part.name, defined[node.module], (name, node.lineno))
                self.assertIsNone(part.asname, (name, node.lineno))

    def test_is_beside_none_true_and_false_alone(self):
        for name, node in nodes(ast.Compare):
            for sign, other in zip(node.ops, node.comparators):
                if isinstance(sign, (ast.Is, ast.IsNot)):
                    self.assertIsInstance(other, ast.Constant, (name, node.lineno))
                    self.assertIn(other.value, (None, True, False), (name, node.lineno))


if __name__ == "__main__":
    unittest.main()
