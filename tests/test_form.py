"""The form of the package's files, as far as it can be seen from their text and their parts."""

import ast
import builtins
import re
import unittest
from pathlib import Path

PACKAGE = Path(__file__).resolve().parent.parent / "reagentstock"
BUILT_IN = set("""
    len range enumerate zip min max sum abs sorted reversed int str bool list tuple dict set frozenset isinstance ord
    repr any all divmod Exception ValueError TypeError KeyError IndexError LookupError ZeroDivisionError
    ArithmeticError OverflowError RuntimeError NotImplementedError AttributeError StopIteration
""".split())
METHODS = set("""
    append clear copy count endswith extend find get index insert isalnum isalpha isdigit islower isspace isupper items
    join keys ljust lower lstrip partition pop remove replace reverse rfind rjust rpartition rsplit rstrip setdefault
    split splitlines startswith strip update upper values zfill bit_length
""".split())
OUT_OF_USE = set("""
    register mro elements open input version_info with_traceback add_note attrgetter breakpoint builtins compile
    copyright credits delattr dir eval exec exit gc getattr globals hasattr help id importlib license locals
    methodcaller os quit setattr super type vars sys __name__ format format_map
""".split())
WORDS = re.compile(
    r"\b(type|typing|typing_extensions|enum|Enum|IntEnum|StrEnum|Flag|IntFlag|Generic|Protocol|ABC|ABCMeta|namedtuple|"
    r"NamedTuple|TypedDict|TYPE_CHECKING|abstractmethod)\b|dataclass|overload|contextmanager"
)
NODES = set("""
    Module Expr ImportFrom alias FunctionDef arguments arg ClassDef Return Assign AugAssign If While For Break Continue
    Pass Raise Try ExceptHandler Call Attribute Subscript Slice Name Constant List Tuple Dict BinOp UnaryOp BoolOp
    Compare IfExp Lambda ListComp comprehension JoinedStr FormattedValue keyword Load Store Add Sub Mult FloorDiv Mod
    Pow BitAnd BitOr BitXor LShift RShift Invert USub Not And Or Eq NotEq Lt LtE Gt GtE In NotIn Is IsNot
""".split())
OWN_METHODS = ("__init__", "__eq__", "__repr__", "__str__", "__len__")


def files():
    return sorted(PACKAGE.glob("*.py"))


def parsed():
    return [(path, ast.parse(path.read_text(encoding="utf-8"))) for path in files()]


def parts(tree, kind):
    return [node for node in ast.walk(tree) if isinstance(node, kind)]


def is_plain(node, above):
    """Whether a value at a file's top is plain; above are the functions that stand above it."""
    if isinstance(node, ast.UnaryOp):
        return isinstance(node.op, ast.USub) and is_plain(node.operand, above)
    if isinstance(node, (ast.Tuple, ast.List)):
        return all(is_plain(each, above) for each in node.elts)
    if isinstance(node, ast.Dict):
        return all(is_plain(each, above) for each in node.keys + node.values)
    if isinstance(node, ast.Name):
        return node.id in above
    return isinstance(node, ast.Constant)


class Texts(unittest.TestCase):
    def test_only_plain_files(self):
        inside = [path.name for path in PACKAGE.iterdir() if path.name != "__pycache__"]
        self.assertIn("__init__.py", inside)
        for name in inside:
            self.assertRegex(name, r"^(__init__|[a-z][a-z0-9_]*)\.py$")

    def test_signs_and_sizes(self):
        for path in files():
            text = path.read_bytes().decode("ascii")
            self.assertEqual(re.findall(r"[^ -~\n]", text), [], path.name)
            rows = text.split("\n")
            self.assertLessEqual(len(rows), 400, path.name)
            self.assertLessEqual(max(len(row) for row in rows), 120, path.name)
            self.assertIsNone(WORDS.search(text), path.name)


class Parts(unittest.TestCase):
    def test_statements_and_expressions(self):
        for path, tree in parsed():
            for node in ast.walk(tree):
                place = f"{path.name}:{getattr(node, 'lineno', 0)}"
                self.assertIn(node.__class__.__name__, NODES, place)
                if isinstance(node, ast.Assign):
                    self.assertEqual(len(node.targets), 1, place)
                    self.assertNotIsInstance(node.targets[0], (ast.Tuple, ast.List), place)
                if isinstance(node, ast.Expr) and node not in tree.body[:1]:
                    self.assertIsInstance(node.value, ast.Call, place)
                if isinstance(node, (ast.For, ast.While)):
                    self.assertEqual(node.orelse, [], place)
                if isinstance(node, ast.ListComp):
                    self.assertEqual(len(node.generators), 1, place)
                    self.assertLessEqual(len(node.generators[0].ifs), 1, place)
                if isinstance(node, ast.Constant):
                    self.assertIn(node.value.__class__, (int, str, bool, None.__class__), place)

    def test_top_of_files(self):
        for path, tree in parsed():
            bound = []
            functions = []
            for node in tree.body:
                place = f"{path.name}:{node.lineno}"
                if isinstance(node, ast.FunctionDef):
                    functions.append(node.name)
                    bound.append(node.name)
                elif isinstance(node, ast.ClassDef):
                    bound.append(node.name)
                elif isinstance(node, ast.ImportFrom):
                    self.assertTrue(node.level == 0 and node.module.startswith("reagentstock."), place)
                    bound += [each.name for each in node.names]
                elif isinstance(node, ast.Assign):
                    self.assertTrue(is_plain(node.value, functions), place)
                    bound.append(node.targets[0].id)
                else:
                    self.assertTrue(node.lineno == 1 and isinstance(node, ast.Expr), place)
            self.assertEqual(len(bound), len(set(bound)), path.name)

    def test_each_name_is_drawn_from_the_file_that_defines_it(self):
        defined = {}
        for path, tree in parsed():
            names = [node.name for node in tree.body if isinstance(node, (ast.FunctionDef, ast.ClassDef))]
            names += [node.targets[0].id for node in tree.body if isinstance(node, ast.Assign)]
            defined["reagentstock." + path.stem] = names
        for path, tree in parsed():
            for node in parts(tree, ast.ImportFrom):
                for each in node.names:
                    self.assertIn(each.name, defined[node.module], f"{path.name}:{node.lineno}")
                    self.assertIsNone(each.asname, f"{path.name}:{node.lineno}")

    def test_no_two_files_draw_from_one_another(self):
        drawn = {}
        for path, tree in parsed():
            drawn["reagentstock." + path.stem] = {node.module for node in parts(tree, ast.ImportFrom)}
        while drawn:
            free = [name for name, modules in drawn.items() if not modules & set(drawn)]
            self.assertNotEqual(free, [], drawn)
            drawn = {name: modules for name, modules in drawn.items() if name not in free}

    def test_functions(self):
        for path, tree in parsed():
            for node in parts(tree, ast.FunctionDef):
                place = f"{path.name}:{node.lineno}"
                self.assertLessEqual(node.end_lineno - node.lineno + 1, 40, place)
                self.assertEqual(node.decorator_list, [], place)
                self.assertEqual(node.args.kwonlyargs + node.args.posonlyargs, [], place)
                self.assertIsNone(node.args.vararg or node.args.kwarg, place)

    def test_names(self):
        for path, tree in parsed():
            top = [node.name for node in tree.body if isinstance(node, ast.ClassDef)]
            top += [each.name for node in parts(tree, ast.ImportFrom) for each in node.names]
            for node in parts(tree, (ast.Name, ast.arg, ast.FunctionDef, ast.ClassDef, ast.Attribute)):
                place = f"{path.name}:{node.lineno}"
                name = getattr(node, "id", None) or getattr(node, "arg", None) or getattr(node, "attr", None)
                name = name or node.name
                self.assertTrue(not name.startswith("_") or name in OWN_METHODS, place)
                self.assertNotIn(name, OUT_OF_USE, place)
                stored = isinstance(node, ast.Name) and isinstance(node.ctx, ast.Store)
                if stored or isinstance(node, ast.arg):
                    self.assertNotIn(name, top, place)
                    self.assertFalse(hasattr(builtins, name), place)
                elif isinstance(node, ast.Name) and hasattr(builtins, name):
                    self.assertIn(name, BUILT_IN, place)

    def test_methods_and_values(self):
        methods = set()
        kept = set()
        called = set()
        for path, tree in parsed():
            for each in parts(tree, ast.ClassDef):
                methods |= {node.name for node in each.body if isinstance(node, ast.FunctionDef)}
            kept |= {node.attr for node in parts(tree, ast.Attribute) if isinstance(node.ctx, ast.Store)}
            called |= {node.func.attr for node in parts(tree, ast.Call) if isinstance(node.func, ast.Attribute)}
        self.assertEqual(methods & kept, set())
        self.assertEqual(called - methods - METHODS, set())
        for own in (str, int, list, dict, set, bytes):
            self.assertEqual((kept | methods - set(OWN_METHODS)) & set(vars(own)), set())

    def test_walked_on_the_spot(self):
        for path, tree in parsed():
            walked = [node.iter for node in parts(tree, (ast.For, ast.comprehension))]
            walked += [node.args[0] for node in parts(tree, ast.Call) if node.args]
            for node in parts(tree, ast.Call):
                name = getattr(node.func, "id", None) or getattr(node.func, "attr", None)
                if name in ("zip", "enumerate", "reversed", "range", "items", "keys", "values"):
                    self.assertTrue(any(node is each for each in walked), f"{path.name}:{node.lineno}")


if __name__ == "__main__":
    unittest.main()
