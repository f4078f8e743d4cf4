"""The rules of the language subset that can be read off the package's files."""

import ast
import builtins
import pathlib
import re
import unittest

FOLDER = pathlib.Path(__file__).resolve().parent.parent / "lentloft"
BUILTINS = set(
    "len range enumerate zip min max sum abs sorted reversed int str bool bytes list tuple dict set frozenset "
    "isinstance ord repr any all divmod Exception ValueError TypeError KeyError IndexError LookupError "
    "ZeroDivisionError ArithmeticError OverflowError RuntimeError NotImplementedError AttributeError "
    "StopIteration NotImplemented super property staticmethod classmethod".split()
)
BARRED_WORDS = (
    r"\b(type|typing|typing_extensions|enum|Enum|IntEnum|StrEnum|Flag|IntFlag|Generic|Protocol|ABC|ABCMeta|"
    r"namedtuple|NamedTuple|TypedDict|TYPE_CHECKING|abstractmethod)\b|dataclass|overload|contextmanager"
)
BARRED_NODES = (
    ast.Import, ast.Global, ast.AsyncFunctionDef, ast.Await, ast.AsyncFor, ast.AsyncWith, ast.Div, ast.MatMult,
)
DOUBLE = re.compile(r"__(init|eq|repr|str|len|enter|exit|call|iter)__")


class TestLanguage(unittest.TestCase):
    def setUp(self):
        self.paths = sorted(FOLDER.glob("*.py"))
        self.texts = {path.stem: path.read_text("utf-8") for path in self.paths}
        self.trees = {name: ast.parse(text) for name, text in self.texts.items()}

    def each_node(self, *kinds):
        for name, tree in self.trees.items():
            for node in ast.walk(tree):
                if isinstance(node, kinds):
                    yield f"{name}.py:{getattr(node, 'lineno', 0)}", node

    def test_the_folder_holds_plain_files_alone(self):
        self.assertIn("__init__", self.texts)
        for path in FOLDER.iterdir():
            if path.name != "__pycache__":
                self.assertRegex(path.name, r"^(__init__|__main__|[a-z][a-z0-9_]*)\.py$")
                self.assertNotRegex(path.name, r"^test")

    def test_signs_and_sizes(self):
        for name, text in self.texts.items():
            self.assertNotRegex(text, r"[^ -~\n]", name)
            self.assertNotRegex(text, BARRED_WORDS, name)
            lines = text.splitlines()
            self.assertLessEqual(len(lines), 400, name)
            self.assertLessEqual(max(len(line) for line in lines), 120, name)
        for at, node in self.each_node(ast.FunctionDef):
            self.assertLessEqual(node.end_lineno - node.lineno + 1, 40, at)

    def test_imports(self):
        for at, node in self.each_node(ast.ImportFrom):
            self.assertEqual(node.level, 0, at)
            self.assertRegex(node.module, r"^lentloft\.[a-z_]+$", at)
            there = self.trees[node.module.partition(".")[2]]
            for alias in node.names:
                self.assertIn(alias.name, self.bound_in(there), at)

    def bound_in(self, tree):
        names = [node.name for node in tree.body if isinstance(node, (ast.FunctionDef, ast.ClassDef))]
        targets = [node.targets[0] for node in tree.body if isinstance(node, ast.Assign)]
        return names + [target.id for target in targets]

    def test_no_two_files_import_from_each_other(self):
        left = {name: self.imported_by(tree) for name, tree in self.trees.items()}
        while left:
            free = [name for name in left if not left[name] & set(left)]
            self.assertTrue(free, f"these import from each other: {sorted(left)}")
            for name in free:
                del left[name]

    def imported_by(self, tree):
        return {node.module.partition(".")[2] for node in tree.body if isinstance(node, ast.ImportFrom)}

    def test_each_name_is_bound_once(self):
        for name, tree in self.trees.items():
            imported = [alias.asname or alias.name
                        for node in tree.body if isinstance(node, ast.ImportFrom) for alias in node.names]
            bound = self.bound_in(tree) + imported
            self.assertEqual(len(bound), len(set(bound)), name)

    def test_statements(self):
        self.assertEqual([at for at, node in self.each_node(*BARRED_NODES)], [])
        for at, node in self.each_node(ast.ExceptHandler):
            self.assertIsNotNone(node.type, at)
        for at, node in self.each_node(ast.Constant):
            self.assertNotIsInstance(node.value, (float, complex), at)
            if isinstance(node.value, str):
                self.assertNotIn("%", node.value, at)
        for at, node in self.each_node(ast.Compare):
            for sign, right in zip(node.ops, node.comparators):
                if isinstance(sign, (ast.Is, ast.IsNot)):
                    self.assertIsInstance(right, ast.Constant, at)
                    self.assertIn(right.value, (None, True, False), at)

    def test_names(self):
        known = set(dir(builtins))
        for at, node in self.each_node(ast.Name, ast.arg, ast.FunctionDef, ast.ClassDef, ast.Attribute):
            name = getattr(node, "id", None) or getattr(node, "arg", None) or getattr(node, "name", None)
            if isinstance(node, ast.Attribute):
                name = node.attr
            self.assertTrue(not name.startswith("_") or DOUBLE.fullmatch(name), f"{at} {name}")
            if isinstance(node, ast.Name) and isinstance(node.ctx, ast.Load):
                self.assertTrue(name not in known or name in BUILTINS, f"{at} {name}")
            elif isinstance(node, (ast.Name, ast.arg)):
                self.assertNotIn(name, known, at)


if __name__ == "__main__":
    unittest.main()
