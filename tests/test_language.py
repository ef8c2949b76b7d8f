"""The package's files keep to the small part of Python; here the rules that can be told by looking."""

import ast
import builtins
import pathlib
import re
import unittest

PACKAGE = pathlib.Path(__file__).resolve().parent.parent / "gapwords"
FILES = sorted(path for path in PACKAGE.rglob("*") if "__pycache__" not in path.parts)
TREES = {path.stem: ast.parse(path.read_text("ascii")) for path in FILES if path.suffix == ".py"}

OWN_NAMES = set("""len range enumerate zip min max sum abs sorted reversed int str bool list tuple dict set frozenset
    isinstance ord repr any all divmod Exception ValueError TypeError KeyError IndexError LookupError ZeroDivisionError
    ArithmeticError OverflowError RuntimeError NotImplementedError StopIteration True False None""".split())
OWN_METHODS = set("""append clear copy count endswith extend find get index insert isalnum isalpha isdigit islower
    isspace isupper items join keys ljust lower lstrip partition pop remove replace reverse rfind rjust rpartition
    rsplit rstrip setdefault split splitlines startswith strip update upper values zfill bit_length""".split())
FORBIDDEN_WORDS = re.compile(r"\b(type|typing|typing_extensions|enum|Enum|IntEnum|StrEnum|Flag|IntFlag|Generic|Protocol"
                             r"|ABC|ABCMeta|namedtuple|NamedTuple|TypedDict|TYPE_CHECKING|abstractmethod)\b"
                             r"|dataclass|overload|contextmanager")
FORBIDDEN_FORMS = (
    ast.Import, ast.With, ast.Match, ast.Delete, ast.Global, ast.Nonlocal, ast.Assert, ast.Yield, ast.YieldFrom,
    ast.AsyncFunctionDef, ast.AsyncFor, ast.AsyncWith, ast.Await, ast.SetComp, ast.DictComp, ast.GeneratorExp,
    ast.NamedExpr, ast.Starred, ast.Div, ast.MatMult, ast.AnnAssign,
)
LOCAL_WALKS = ("zip", "enumerate", "reversed", "range")
DICT_WALKS = ("items", "keys", "values")
TAKING_WALKS = ("list", "tuple", "dict", "sorted", "sum", "any", "all", "enumerate", "zip")
KEYWORDS = {"sorted": {"key", "reverse"}, "min": {"key", "default"}, "max": {"key", "default"}, "sum": {"start"},
            "enumerate": {"start"}, "zip": {"strict"}}
CHANGES = ("append", "clear", "extend", "insert", "pop", "remove", "reverse", "setdefault", "update")
UNUSED_NAMES = set("""register mro elements open input version_info with_traceback add_note attrgetter breakpoint builtins
    compile copyright credits delattr dir eval exec exit gc getattr globals hasattr help id importlib license locals
    methodcaller os quit setattr super vars sys chr""".split())
TOP_FORMS = (ast.FunctionDef, ast.ClassDef, ast.ImportFrom, ast.Assign, ast.Expr)


def nodes(*forms):
    """Each (place, node) of these forms in the package."""
    for stem, tree in TREES.items():
        for node in ast.walk(tree):
            if isinstance(node, forms or ast.AST):
                yield (f"{stem}.py:{getattr(node, 'lineno', 0)}", node)


def names_at_top(tree):
    """The names that a file binds at its top by itself."""
    names = []
    for node in tree.body:
        if isinstance(node, (ast.FunctionDef, ast.ClassDef)):
            names.append(node.name)
        elif isinstance(node, ast.Assign):
            names.extend(target.id for target in node.targets)
    return names


def drawn_from(stem):
    """The files that a file draws from, in however many steps."""
    found, ahead = set(), [stem]
    while ahead:
        for node in TREES[ahead.pop()].body:
            if isinstance(node, ast.ImportFrom):
                other = node.module.partition(".")[2]
                if other not in found:
                    found.add(other)
                    ahead.append(other)
    return found


def parents(tree):
    """A dict from each node to the one in which it stands."""
    return {child: node for node in ast.walk(tree) for child in ast.iter_child_nodes(node)}


def called(node):
    """The name or method that is called, or the text of no signs."""
    if not isinstance(node, ast.Call):
        return ""
    return getattr(node.func, "id", getattr(node.func, "attr", ""))


def is_walk(node):
    """Whether a call makes what is to be walked at once."""
    by_name = isinstance(node.func, ast.Name) and node.func.id in LOCAL_WALKS
    return by_name or (isinstance(node.func, ast.Attribute) and node.func.attr in DICT_WALKS)


def is_walked_at_once(node, parent):
    """Whether such a call stands where it is walked on the spot."""
    if isinstance(parent, (ast.For, ast.comprehension)):
        return parent.iter is node
    if not isinstance(parent, ast.Call) or node not in parent.args[:1]:
        return called(parent) == "zip" and node in parent.args
    if isinstance(parent.func, ast.Attribute):
        return parent.func.attr == "join" and isinstance(parent.func.value, ast.Constant)
    return parent.func.id in TAKING_WALKS or (parent.func.id in ("min", "max") and len(parent.args) == 1)


class TheLanguage(unittest.TestCase):
    def test_files(self):
        self.assertIn("__init__", TREES)
        for path in FILES:
            self.assertRegex(path.name, r"^(__init__|__main__|[a-z][a-z0-9_]*)\.py$")
            lines = path.read_text("ascii").split("\n")
            self.assertLessEqual(len(lines), 400, path.name)
            for number, line in enumerate(lines, 1):
                self.assertRegex(line, r"^[ -~]{0,120}$", f"{path.name}:{number}")
                self.assertNotRegex(line, FORBIDDEN_WORDS, f"{path.name}:{number}")

    def test_forms(self):
        for place, node in nodes(*FORBIDDEN_FORMS):
            self.fail(f"{place}: {node.__class__.__name__}")
        for stem, tree in TREES.items():
            for node in tree.body:
                self.assertIsInstance(node, TOP_FORMS, stem)
        for place, node in nodes(ast.Constant):
            self.assertIsInstance(node.value, (int, str, bool, None.__class__), place)
            self.assertNotIn("%", str(node.value), place)
        for place, node in nodes(ast.For, ast.While):
            self.assertEqual(node.orelse, [], place)
        for place, node in nodes(ast.Try):
            self.assertEqual(node.finalbody, [], place)
        for place, node in nodes(ast.ListComp):
            self.assertEqual(len(node.generators), 1, place)
            self.assertLessEqual(len(node.generators[0].ifs), 1, place)
        for place, node in nodes(ast.Assign):
            self.assertEqual(len(node.targets), 1, place)

    def test_functions(self):
        for place, node in nodes(ast.FunctionDef):
            self.assertLessEqual(node.end_lineno - node.lineno + 1, 40, place)
            self.assertEqual((node.decorator_list, node.args.vararg, node.args.kwarg, node.args.kwonlyargs),
                             ([], None, None, []), place)
        for place, node in nodes(ast.ClassDef):
            self.assertEqual((node.decorator_list, node.keywords), ([], []), place)
            self.assertLessEqual(len(node.bases), 1, place)

    def test_names(self):
        for place, node in nodes(ast.Name):
            self.assertFalse(node.id.startswith("_"), place)
            if isinstance(node.ctx, ast.Store) or node.id not in OWN_NAMES:
                self.assertFalse(hasattr(builtins, node.id), f"{place}: {node.id}")
        for place, node in nodes(ast.arg):
            self.assertFalse(hasattr(builtins, node.arg) or node.arg.startswith("_"), f"{place}: {node.arg}")
        for place, node in nodes(ast.Compare):
            for sort, beside in zip(node.ops, node.comparators):
                if isinstance(sort, (ast.Is, ast.IsNot)):
                    self.assertIn(getattr(beside, "value", 0), (None, True, False), place)

    def test_methods(self):
        own = {node.name for place, node in nodes(ast.FunctionDef)}
        for place, node in nodes(ast.Call):
            if isinstance(node.func, ast.Attribute):
                self.assertIn(node.func.attr, OWN_METHODS | own, place)

    def test_imports(self):
        for stem, tree in TREES.items():
            self.assertEqual(len(set(names_at_top(tree))), len(names_at_top(tree)), stem)
            self.assertNotIn(stem, drawn_from(stem))
        for place, node in nodes(ast.ImportFrom):
            self.assertEqual(node.level, 0, place)
            package, dot, stem = node.module.partition(".")
            self.assertEqual((package, stem in TREES), ("gapwords", True), place)
            for name in node.names:
                self.assertIn(name.name, names_at_top(TREES[stem]), place)

    def test_walked_at_once(self):
        for stem, tree in TREES.items():
            around = parents(tree)
            for node in ast.walk(tree):
                if isinstance(node, ast.Call) and is_walk(node):
                    self.assertTrue(is_walked_at_once(node, around[node]), f"{stem}.py:{node.lineno}")
                if called(node) in ("set", "frozenset"):
                    above = around[node]
                    while isinstance(above, ast.BinOp):
                        above = around[above]
                    beside = isinstance(above, ast.Compare) or called(above) in ("sorted", "len")
                    self.assertTrue(beside, f"{stem}.py:{node.lineno}")

    def test_what_a_loop_walks_is_not_changed(self):
        for place, node in nodes(ast.For):
            walked = {name.id for name in ast.walk(node.iter) if isinstance(name, ast.Name)}
            for inner in [one for part in node.body for one in ast.walk(part)]:
                if isinstance(inner, ast.Call) and isinstance(inner.func, ast.Attribute) and called(inner) in CHANGES:
                    self.assertNotIn(getattr(inner.func.value, "id", ""), walked, place)
                if isinstance(inner, ast.Subscript) and isinstance(inner.ctx, ast.Store):
                    self.assertNotIn(getattr(inner.value, "id", ""), walked, place)

    def test_keywords_and_defaults(self):
        for place, node in nodes(ast.Call):
            for keyword in node.keywords:
                self.assertIn(keyword.arg, KEYWORDS.get(called(node), ()), place)
        for place, node in nodes(ast.FunctionDef):
            for default in node.args.defaults:
                self.assertIsInstance(default, ast.Constant, place)
            self.assertIsNone(node.returns, place)

    def test_names_of_locals(self):
        for stem, tree in TREES.items():
            taken = {name.name for node in tree.body if isinstance(node, ast.ImportFrom) for name in node.names}
            taken |= {node.name for node in tree.body if isinstance(node, (ast.ClassDef, ast.FunctionDef))}
            for node in ast.walk(tree):
                if isinstance(node, ast.arg):
                    self.assertNotIn(node.arg, taken, f"{stem}.py:{node.lineno}")
                if isinstance(node, ast.Name) and isinstance(node.ctx, ast.Store):
                    self.assertNotIn(node.id, taken, f"{stem}.py:{node.lineno}")
                word = getattr(node, "id", getattr(node, "attr", getattr(node, "arg", "")))
                self.assertNotIn(word, UNUSED_NAMES, f"{stem}.py:{getattr(node, 'lineno', 0)}")

    def test_texts_and_powers(self):
        for place, node in nodes(ast.FormattedValue):
            self.assertIsInstance(node.value, ast.Name, place)
            self.assertIn((node.conversion, node.format_spec), ((-1, None), (ord("r"), None)), place)
        for place, node in nodes(ast.BinOp):
            if isinstance(node.op, ast.Pow):
                self.assertIsInstance(node.right, ast.Constant, place)
        for place, node in nodes(ast.Assign):
            self.assertNotIsInstance(node.targets[0], (ast.Tuple, ast.List), place)
