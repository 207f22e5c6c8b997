"""The package's files keep to the small part of Python: those rules that a walk over the code can see."""

import ast
import builtins
import pathlib
import re
import unittest

PACKAGE = pathlib.Path(__file__).resolve().parent.parent / "leaperwalk"

OWN_NAMES = set(
    "len range enumerate zip min max sum abs sorted reversed int str bool list tuple dict set frozenset isinstance ord "
    "repr any all divmod Exception ValueError TypeError KeyError IndexError LookupError ZeroDivisionError "
    "ArithmeticError OverflowError RuntimeError NotImplementedError AttributeError StopIteration".split()
)
METHODS = set(
    "append clear copy count endswith extend find get index insert isalnum isalpha isdigit islower isspace isupper "
    "items join keys ljust lower lstrip partition pop remove replace reverse rfind rjust rpartition rsplit rstrip "
    "setdefault split splitlines startswith strip update upper values zfill bit_length".split()
)
WORDS = re.compile(
    r"\b(type|typing|typing_extensions|enum|Enum|IntEnum|StrEnum|Flag|IntFlag|Generic|Protocol|ABC|ABCMeta|namedtuple"
    r"|NamedTuple|TypedDict|TYPE_CHECKING|abstractmethod)\b|dataclass|overload|contextmanager"
)
UNUSED = set("register mro elements open input version_info with_traceback add_note format format_map".split())
FORMS = (
    ast.Module, ast.Expr, ast.ImportFrom, ast.alias, ast.FunctionDef, ast.arguments, ast.arg, ast.ClassDef, ast.Assign,
    ast.AugAssign, ast.If, ast.While, ast.For, ast.Return, ast.Break, ast.Continue, ast.Pass, ast.Raise, ast.Try,
    ast.ExceptHandler, ast.Constant, ast.List, ast.Tuple, ast.Dict, ast.BinOp, ast.UnaryOp, ast.BoolOp, ast.Compare,
    ast.IfExp, ast.Call, ast.keyword, ast.Attribute, ast.Subscript, ast.Slice, ast.ListComp, ast.comprehension,
    ast.Lambda, ast.JoinedStr, ast.FormattedValue, ast.Name, ast.expr_context, ast.operator, ast.unaryop, ast.boolop,
    ast.cmpop,
)


def package_files():
    return sorted(path for path in PACKAGE.iterdir() if path.name != "__pycache__")


def top_names(tree):
    names = []
    for part in tree.body:
        if isinstance(part, (ast.FunctionDef, ast.ClassDef)):
            names.append(part.name)
        if isinstance(part, ast.Assign):
            names.append(part.targets[0].id)
    return names


class Language(unittest.TestCase):
    def setUp(self):
        self.texts = {path.stem: path.read_text(encoding="utf-8") for path in package_files()}
        self.trees = {stem: ast.parse(text) for stem, text in self.texts.items()}

    def nodes(self):
        for stem, tree in self.trees.items():
            for node in ast.walk(tree):
                yield f"{stem}.py:{getattr(node, 'lineno', 0)}", node

    def test_files(self):
        self.assertIn("__init__.py", [path.name for path in package_files()])
        for path in package_files():
            self.assertRegex(path.name, r"^([a-z][a-z0-9_]*|__init__|__main__)\.py$")
            self.assertNotIn(path.stem, dir(builtins))

    def test_signs_and_sizes(self):
        for stem, text in self.texts.items():
            self.assertRegex(text, r"\A[\n -~]*\Z", stem)
            self.assertIsNone(WORDS.search(text), stem)
            rows = text.split("\n")
            self.assertLessEqual(len(rows), 400, stem)
            self.assertLessEqual(max(len(row) for row in rows), 120, stem)
        for place, node in self.nodes():
            if isinstance(node, ast.FunctionDef):
                self.assertLessEqual(node.end_lineno - node.lineno + 1, 40, place)

    def test_forms(self):
        for place, node in self.nodes():
            self.assertIsInstance(node, FORMS, place)
            if isinstance(node, (ast.FunctionDef, ast.ClassDef)):
                self.assertEqual(node.decorator_list, [], place)
            if isinstance(node, ast.arguments):
                self.assertFalse(node.vararg or node.kwarg or node.kwonlyargs or node.posonlyargs, place)
            if isinstance(node, ast.Assign):
                self.assertEqual(len(node.targets), 1, place)
            if isinstance(node, (ast.For, ast.While)):
                self.assertEqual(node.orelse, [], place)
            if isinstance(node, ast.Try):
                self.assertEqual(node.finalbody, [], place)
            if isinstance(node, ast.ListComp):
                self.assertEqual(len(node.generators), 1, place)
                self.assertLessEqual(len(node.generators[0].ifs), 1, place)
            if isinstance(node, ast.Constant):
                self.assertNotIsInstance(node.value, (float, complex, bytes), place)
            if isinstance(node, ast.Compare) and any(isinstance(sign, (ast.Is, ast.IsNot)) for sign in node.ops):
                self.assertIn(getattr(node.comparators[0], "value", 0), (None, True, False), place)
            self.assertNotIsInstance(node, (ast.Div, ast.MatMult), place)

    def test_names(self):
        for place, node in self.nodes():
            if isinstance(node, ast.Name):
                self.assertRegex(node.id, r"^[A-Za-z]\w*$", place)
                self.assertNotIn(node.id, UNUSED, place)
                self.assertFalse(node.id in dir(builtins) and node.id not in OWN_NAMES, place)
                self.assertFalse(node.id in dir(builtins) and isinstance(node.ctx, ast.Store), place)
            if isinstance(node, ast.arg):
                self.assertRegex(node.arg, r"^[A-Za-z]\w*$", place)
                self.assertNotIn(node.arg, dir(builtins), place)
            if isinstance(node, ast.Call) and isinstance(node.func, ast.Attribute):
                self.assertIn(node.func.attr, METHODS, place)

    def test_the_top_of_each_file(self):
        for stem, tree in self.trees.items():
            imported = []
            for place, part in enumerate(tree.body):
                is_docstring = place == 0 and isinstance(part, ast.Expr) and isinstance(part.value, ast.Constant)
                if not is_docstring:
                    self.assertIsInstance(part, (ast.ImportFrom, ast.FunctionDef, ast.ClassDef, ast.Assign), stem)
                if isinstance(part, ast.ImportFrom):
                    imported += [alias.name for alias in part.names]
            bound = imported + top_names(tree)
            self.assertEqual(len(bound), len(set(bound)), stem)
            for node in ast.walk(tree):
                if isinstance(node, ast.Name) and isinstance(node.ctx, ast.Store) or isinstance(node, ast.arg):
                    self.assertNotIn(getattr(node, "id", None) or getattr(node, "arg", None), imported, stem)

    def test_imports(self):
        draws = {stem: set() for stem in self.trees}
        for stem, tree in self.trees.items():
            for node in ast.walk(tree):
                if isinstance(node, ast.ImportFrom):
                    self.assertEqual(node.level, 0, stem)
                    self.assertRegex(node.module, r"^leaperwalk\.[a-z_]+$", stem)
                    source = node.module.split(".")[1]
                    draws[stem].add(source)
                    for alias in node.names:
                        self.assertIn(alias.name, top_names(self.trees[source]), stem)
        while draws:
            leaves = [stem for stem, sources in draws.items() if not sources & set(draws)]
            self.assertTrue(leaves, "files draw from one another in a ring")
            for stem in leaves:
                del draws[stem]


if __name__ == "__main__":
    unittest.main()
