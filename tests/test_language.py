"""The part of Python that the package keeps to, as far as it is plainly seen in its files."""

import ast
import builtins
import pathlib
import re
import unittest

PACKAGE = pathlib.Path(__file__).resolve().parent.parent / "ken"
FILES = sorted(PACKAGE.rglob("*.py"))
NODES = (
    ast.Module, ast.Expr, ast.ImportFrom, ast.alias, ast.FunctionDef, ast.arguments, ast.arg, ast.ClassDef,
    ast.Assign, ast.AugAssign, ast.If, ast.While, ast.For, ast.Return, ast.Break, ast.Continue, ast.Pass, ast.Raise,
    ast.Try, ast.ExceptHandler, ast.Assert, ast.Delete, ast.Constant, ast.Name, ast.List, ast.Tuple, ast.Dict,
    ast.Set, ast.BinOp, ast.UnaryOp, ast.BoolOp, ast.Compare, ast.IfExp, ast.Call, ast.keyword, ast.Attribute,
    ast.Subscript, ast.Slice, ast.ListComp, ast.DictComp, ast.SetComp, ast.comprehension, ast.JoinedStr,
    ast.FormattedValue, ast.Lambda, ast.Starred, ast.operator, ast.unaryop, ast.boolop, ast.cmpop, ast.expr_context,
)
OWN_NAMES = set("""len range enumerate zip min max sum abs sorted reversed int str bool bytes list tuple dict set
    isinstance ord repr any all divmod Exception ValueError TypeError KeyError IndexError LookupError
    ZeroDivisionError ArithmeticError OverflowError RuntimeError NotImplementedError AttributeError
    StopIteration""".split())
NOWHERE = re.compile(r"\b(type|typing|typing_extensions|enum|Enum|IntEnum|StrEnum|Flag|IntFlag|Generic|Protocol|ABC"
                     r"|ABCMeta|namedtuple|NamedTuple|TypedDict|TYPE_CHECKING|abstractmethod)\b"
                     r"|dataclass|overload|contextmanager")
NO_NAMES = set("""register mro elements open input version_info with_traceback add_note format format_map attrgetter
    breakpoint builtins compile copyright credits delattr dir eval exec exit gc getattr globals hasattr help id
    importlib license locals methodcaller os quit setattr super vars sys""".split())
TWO_UNDERSCORES = ("__init__", "__eq__", "__repr__", "__str__", "__len__")


def names_in(tree):
    """Each name that stands in the file, of whatever thing."""
    for node in ast.walk(tree):
        for field in ("id", "name", "arg", "attr", "asname"):
            if isinstance(getattr(node, field, None), str):
                yield getattr(node, field)


def given_in(tree):
    """Each name that the file gives a value to."""
    for node in ast.walk(tree):
        if isinstance(node, ast.Name) and not isinstance(node.ctx, ast.Load):
            yield node.id
        if isinstance(node, ast.arg):
            yield node.arg


class Language(unittest.TestCase):
    def each(self):
        for file in FILES:
            source = file.read_text(encoding="utf-8")
            yield file.name, source, ast.parse(source)

    def test_files(self):
        self.assertIn(PACKAGE / "__init__.py", FILES)
        for thing in PACKAGE.rglob("*"):
            if "__pycache__" not in thing.parts:
                self.assertTrue(thing.is_dir() or re.fullmatch("[a-z0-9_]+[.]py", thing.name), thing)

    def test_signs_and_sizes(self):
        for name, source, tree in self.each():
            self.assertTrue(re.fullmatch("[ -~\n]*", source), name)
            self.assertLessEqual(source.count("\n"), 400, name)
            self.assertLessEqual(max(map(len, source.split("\n"))), 120, name)
            self.assertIsNone(NOWHERE.search(source), name)
            for node in ast.walk(tree):
                if isinstance(node, ast.FunctionDef):
                    self.assertLessEqual(node.end_lineno - node.lineno + 1, 40, (name, node.name))

    def test_forms(self):
        for name, source, tree in self.each():
            for node in ast.walk(tree):
                where = (name, getattr(node, "lineno", None), node)
                self.assertIsInstance(node, NODES, where)
                self.assertNotIsInstance(node, (ast.Div, ast.MatMult), where)
                if isinstance(node, ast.Constant):
                    self.assertNotIsInstance(node.value, (float, complex), where)
                if isinstance(node, ast.ImportFrom):
                    self.assertTrue(node.level == 0 and node.module.startswith("ken."), where)
                if isinstance(node, (ast.FunctionDef, ast.ClassDef)):
                    self.assertEqual(node.decorator_list, [], where)
                if isinstance(node, (ast.For, ast.While)):
                    self.assertEqual(node.orelse, [], where)
                if isinstance(node, ast.Compare) and isinstance(node.ops[0], (ast.Is, ast.IsNot)):
                    self.assertIsInstance(node.comparators[0], ast.Constant, where)

    def test_names(self):
        for name, source, tree in self.each():
            for word in names_in(tree):
                self.assertTrue(word in TWO_UNDERSCORES or re.fullmatch("[A-Za-z][A-Za-z0-9_]*", word), (name, word))
                self.assertNotIn(word, NO_NAMES, name)
            for word in given_in(tree):
                self.assertFalse(hasattr(builtins, word), (name, word))
            for node in ast.walk(tree):
                if isinstance(node, ast.Name) and hasattr(builtins, node.id):
                    self.assertIn(node.id, OWN_NAMES, name)

    def test_no_local_is_called_like_an_import_or_a_class(self):
        for name, source, tree in self.each():
            taken = {row.name for row in tree.body if isinstance(row, ast.ClassDef)}
            taken |= {each.name for row in tree.body if isinstance(row, ast.ImportFrom) for each in row.names}
            self.assertEqual(taken & set(given_in(tree)), set(), name)
            defs = [node for node in ast.walk(tree) if isinstance(node, ast.FunctionDef)]
            inner = {node.name for node in defs if node not in tree.body}
            self.assertEqual(taken & inner, set(), name)

    def test_no_name_is_a_method_and_a_value(self):
        methods, values = set(), set()
        for name, source, tree in self.each():
            for node in ast.walk(tree):
                if isinstance(node, ast.ClassDef):
                    methods |= {row.name for row in node.body if isinstance(row, ast.FunctionDef)}
                if isinstance(node, ast.Attribute) and isinstance(node.ctx, ast.Store):
                    values.add(node.attr)
        self.assertIn("say", methods)
        self.assertIn("wishes", values)
        self.assertEqual(methods & values, set())

    def test_imports(self):
        """Each name is drawn from the file that defines it, is used, and no two files draw from one another."""
        trees = {f"ken.{name[:-3]}": tree for name, source, tree in self.each()}
        draws = {}
        for module, tree in trees.items():
            rows = [row for row in tree.body if isinstance(row, ast.ImportFrom)]
            draws[module] = {row.module for row in rows}
            used = {node.id for node in ast.walk(tree) if isinstance(node, ast.Name)}
            for row in rows:
                there = trees[row.module].body
                defined = {one.name for one in there if isinstance(one, (ast.FunctionDef, ast.ClassDef))}
                defined |= {target.id for one in there if isinstance(one, ast.Assign) for target in one.targets}
                drawn = {each.name for each in row.names}
                self.assertLessEqual(drawn, defined & used, (module, row.module))
        while draws:
            ends = [module for module in draws if not draws[module] & set(draws)]
            self.assertTrue(ends, draws)
            for module in ends:
                del draws[module]


if __name__ == "__main__":
    unittest.main()
