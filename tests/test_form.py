"""The package keeps to its small part of Python, as far as a look at its files can tell."""

import ast
import builtins
import pathlib
import re
import unittest

PACKAGE = pathlib.Path(__file__).resolve().parent.parent / "boathandicaps"
FILES = sorted(path for path in PACKAGE.rglob("*") if path.is_file() and "__pycache__" not in path.parts)

ALLOWED_NODES = (
    "Module Expr Constant ImportFrom alias FunctionDef ClassDef arguments arg Assign AugAssign Name Load Store Tuple "
    "List Dict Attribute Call keyword Subscript Slice BinOp Add Sub Mult FloorDiv Mod UnaryOp USub Not BoolOp And Or "
    "Compare Eq NotEq Lt LtE Gt GtE In NotIn Is IsNot IfExp ListComp comprehension Lambda If While For Return Break "
    "Continue Pass"
).split()
ALLOWED_BUILTINS = (
    "len range enumerate zip min max sum abs sorted reversed int str bool list tuple dict isinstance ord repr any all "
    "divmod"
).split()
ALLOWED_METHODS = (
    "append clear copy count endswith extend find get index insert isalnum isalpha isdigit islower isspace isupper "
    "items join keys ljust lower lstrip partition pop remove replace reverse rfind rjust rpartition rsplit rstrip "
    "setdefault split splitlines startswith strip update upper values zfill bit_length"
).split()
WORDS_NOWHERE = re.compile(
    r"\b(type|typing|typing_extensions|enum|Enum|IntEnum|StrEnum|Flag|IntFlag|Generic|Protocol|ABC|ABCMeta|namedtuple|"
    r"NamedTuple|TypedDict|TYPE_CHECKING|abstractmethod)\b|dataclass|overload|contextmanager")


def trees():
    for path in FILES:
        yield path, ast.parse(path.read_text(encoding="utf-8"))


def nodes(*kinds):
    for path, tree in trees():
        for node in ast.walk(tree):
            if isinstance(node, kinds):
                yield path, node


def bound_names(tree):
    for node in ast.walk(tree):
        if isinstance(node, ast.Name) and isinstance(node.ctx, ast.Store):
            yield node.id
        elif isinstance(node, ast.arg):
            yield node.arg
        elif isinstance(node, (ast.FunctionDef, ast.ClassDef)):
            yield node.name


class Form(unittest.TestCase):
    def test_files(self):
        self.assertIn(PACKAGE / "__init__.py", FILES)
        for path in FILES:
            self.assertRegex(path.name, r"^([a-z][a-z0-9_]*|__init__|__main__)\.py$")
            self.assertFalse(path.stem in dir(builtins) or path.stem.startswith("test"), path)

    def test_signs_and_sizes(self):
        for path in FILES:
            text = path.read_text(encoding="utf-8")
            self.assertRegex(text, r"\A[ -~\n]*\Z", path)
            self.assertIsNone(WORDS_NOWHERE.search(text), path)
            self.assertLessEqual(len(text.splitlines()), 400, path)
            self.assertLessEqual(max(map(len, text.splitlines())), 120, path)
        for path, node in nodes(ast.FunctionDef):
            self.assertLessEqual(node.end_lineno - node.lineno + 1, 40, node.name)

    def test_statements_and_expressions(self):
        for path, node in nodes(ast.AST):
            self.assertIn(type(node).__name__, ALLOWED_NODES, (path, getattr(node, "lineno", None)))
            if isinstance(node, (ast.For, ast.While)):
                self.assertEqual(node.orelse, [], (path, node.lineno))
            if isinstance(node, ast.Assign):
                self.assertEqual(len(node.targets), 1, (path, node.lineno))
            if isinstance(node, ast.ListComp):
                self.assertTrue(len(node.generators) == 1 and len(node.generators[0].ifs) <= 1, (path, node.lineno))
            if isinstance(node, ast.Constant):
                self.assertIn(type(node.value), (int, str, bool, type(None)), (path, node.lineno))
                self.assertNotIn("%", str(node.value), (path, node.lineno))
            if isinstance(node, ast.FunctionDef):
                self.assertEqual(node.decorator_list, [], node.name)

    def test_imports(self):
        drawn = {}
        for path, node in nodes(ast.ImportFrom):
            self.assertTrue(node.level == 0 and node.module.startswith("boathandicaps."), path)
            source = PACKAGE / (node.module.split(".")[1] + ".py")
            own = [item.name for item in ast.parse(source.read_text()).body if hasattr(item, "name")]
            for item in ast.parse(source.read_text()).body:
                own += [target.id for target in item.targets] if isinstance(item, ast.Assign) else []
            for name in node.names:
                self.assertIn(name.name, own)
                self.assertIsNone(name.asname)
            drawn.setdefault(path, set()).add(source)
        left = set(FILES)
        while left:
            free = {path for path in left if not drawn.get(path, set()) & left}
            self.assertTrue(free, "files draw from one another")
            left -= free

    def test_names(self):
        for path, tree in trees():
            taken = set(dir(builtins)) | {name.name for item in tree.body if isinstance(item, ast.ImportFrom)
                                          for name in item.names}
            taken |= {item.name for item in tree.body if isinstance(item, ast.ClassDef)}
            classes = [item.name for item in tree.body if isinstance(item, ast.ClassDef)]
            names = list(bound_names(tree))
            for name in names:
                self.assertTrue(re.fullmatch(r"[A-Za-z][A-Za-z0-9_]*", name) or name == "__init__", (path, name))
                self.assertTrue(name not in taken or name in classes and names.count(name) == 1, (path, name))
            known = set(names) | taken - set(dir(builtins)) | set(ALLOWED_BUILTINS)
            for node in ast.walk(tree):
                if isinstance(node, ast.Name):
                    self.assertIn(node.id, known, path)

    def test_methods(self):
        for path, node in nodes(ast.Call):
            if isinstance(node.func, ast.Attribute):
                self.assertIn(node.func.attr, ALLOWED_METHODS, (path, node.lineno))


if __name__ == "__main__":
    unittest.main()
