"""The rules of the language subset that can be read off the package's files."""

import ast
import builtins
import pathlib
import re
import unittest

FOLDER = pathlib.Path(__file__).resolve().parent.parent / "lentloft"
BUILTINS = set(
    "len range enumerate zip min max sum abs sorted reversed int str bool bytes list tuple dict set frozenset "
    "isinstance ord repr any all divmod Exception ValueError TypeError KeyError IndexError LookupError "
    "ZeroDivisionError ArithmeticError OverflowError RuntimeError NotImplementedError AttributeError "
    "StopIteration NotImplemented super property staticmethod classmethod".split()
)
BARRED_WORDS = (
    r"\b(type|typing|typing_extensions|enum|Enum|IntEnum|StrEnum|Flag|IntFlag|Generic|Protocol|ABC|ABCMeta|"
    r"namedtuple|NamedTuple|TypedDict|TYPE_CHECKING|abstractmethod)\b|dataclass|overload|contextmanager"
)
BARRED_NODES = (
    ast.Import, ast.Global, ast.AsyncFunctionDef, ast.Await, ast.AsyncFor, ast.AsyncWith, ast.Div, ast.MatMult,
)
BUILTIN_METHODS = set(
    "append clear copy count endswith extend find get index insert isalnum isalpha isdigit islower isspace isupper "
    "items join keys ljust lower lstrip partition pop remove replace reverse rfind rjust rpartition rsplit rstrip "
    "setdefault split splitlines startswith strip update upper values zfill bit_length add discard sort".split()
)
NOT_NAMES = set(
    "register mro elements open input version_info with_traceback add_note attrgetter builtins gc importlib "
    "methodcaller os sys super".split()
)
DOUBLE = re.compile(r"__(init|eq|repr|str|len|enter|exit|call|iter)__")


class TestLanguage(unittest.TestCase):
    def setUp(self):
        self.paths = sorted(FOLDER.glob("*.py"))
        self.texts = {path.stem: path.read_text("utf-8") for path in self.paths}
        self.trees = {name: ast.parse(text) for name, text in self.texts.items()}

    def each_node(self, *kinds):
        for name, tree in self.trees.items():
            for node in ast.walk(tree):
                if isinstance(node, kinds):
                    yield f"{name}.py:{getattr(node, 'lineno', 0)}", node

    def test_the_folder_holds_plain_files_alone(self):
        self.assertIn("__init__", self.texts)
        for path in FOLDER.iterdir():
            if path.name != "__pycache__":
                self.assertRegex(path.name, r"^(__init__|__main__|[a-z][a-z0-9_]*)\.py$")
                self.assertNotRegex(path.name, r"^test")

    def test_signs_and_sizes(self):
        for name, text in self.texts.items():
            self.assertNotRegex(text, r"[^ -~\n]", name)
            self.assertNotRegex(text, BARRED_WORDS, name)
            lines = text.splitlines()
            self.assertLessEqual(len(lines), 400, name)
            self.assertLessEqual(max(len(line) for line in lines), 120, name)
        for at, node in self.each_node(ast.FunctionDef):
            self.assertLessEqual(node.end_lineno - node.lineno + 1, 40, at)

    def test_imports(self):
        for at, node in self.each_node(ast.ImportFrom):
            self.assertEqual(node.level, 0, at)
            self.assertRegex(node.module, r"^lentloft\.[a-z_]+$", at)
            there = self.trees[node.module.partition(".")[2]]
            for alias in node.names:
                self.assertIn(alias.name, self.bound_in(there), at)

    def bound_in(self, tree):
        names = [node.name for node in tree.body if isinstance(node, (ast.FunctionDef, ast.ClassDef))]
        targets = [node.targets[0] for node in tree.body if isinstance(node, ast.Assign)]
        return names + [target.id for target in targets]

    def test_no_two_files_import_from_each_other(self):
        left = {name: self.imported_by(tree) for name, tree in self.trees.items()}
        while left:
            free = [name for name in left if not left[name] & set(left)]
            self.assertTrue(free, f"these import from each other: {sorted(left)}")
            for name in free:
                del left[name]

    def imported_by(self, tree):
        return {node.module.partition(".")[2] for node in tree.body if isinstance(node, ast.ImportFrom)}

    def test_each_name_is_bound_once(self):
        for name, tree in self.trees.items():
            imported = [alias.asname or alias.name
                        for node in tree.body if isinstance(node, ast.ImportFrom) for alias in node.names]
            bound = self.bound_in(tree) + imported
            self.assertEqual(len(bound), len(set(bound)), name)

    def test_statements(self):
        self.assertEqual([at for at, node in self.each_node(*BARRED_NODES)], [])
        for at, node in self.each_node(ast.ExceptHandler):
            self.assertIsNotNone(node.type, at)
        for at, node in self.each_node(ast.Constant):
            self.assertNotIsInstance(node.value, (float, complex), at)
            if isinstance(node.value, str):
                self.assertNotIn("%", node.value, at)
        for at, node in self.each_node(ast.Compare):
            for sign, right in zip(node.ops, node.comparators):
                if isinstance(sign, (ast.Is, ast.IsNot)):
                    self.assertIsInstance(right, ast.Constant, at)
                    self.assertIn(right.value, (None, True, False), at)

    def test_names(self):
        known = set(dir(builtins))
        for at, node in self.each_node(ast.Name, ast.arg, ast.FunctionDef, ast.ClassDef, ast.Attribute):
            name = getattr(node, "id", None) or getattr(node, "arg", None) or getattr(node, "name", None)
            if isinstance(node, ast.Attribute):
                name = node.attr
            self.assertTrue(not name.startswith("_") or DOUBLE.fullmatch(name), f"{at} {name}")
            if isinstance(node, ast.Name) and isinstance(node.ctx, ast.Load):
                self.assertTrue(name not in known or name in BUILTINS, f"{at} {name}")
            elif isinstance(node, (ast.Name, ast.arg)):
                self.assertNotIn(name, known, at)
            self.assertNotIn(name, NOT_NAMES, at)

    def methods(self):
        return {each.name for at, node in self.each_node(ast.ClassDef)
                for each in node.body if isinstance(each, ast.FunctionDef)}

    def attributes(self):
        return {node.attr for at, node in self.each_node(ast.Attribute) if isinstance(node.ctx, ast.Store)}

    def test_no_name_is_a_method_and_an_attribute(self):
        self.assertEqual(self.methods() & self.attributes(), set())

    def test_own_methods_and_attributes_have_names_of_their_own(self):
        known = {name for kind in (str, int, list, dict, set, bytes, tuple) for name in dir(kind)}
        own = {name for name in self.methods() if not DOUBLE.fullmatch(name)} | self.attributes()
        self.assertEqual(own & known, set())

    def test_each_attribute_that_is_read_is_there(self):
        there = self.methods() | self.attributes() | BUILTIN_METHODS
        for at, node in self.each_node(ast.Attribute):
            self.assertIn(node.attr, there, at)

    def test_each_class_has_each_method_once(self):
        for at, node in self.each_node(ast.ClassDef):
            names = [each.name for each in node.body if isinstance(each, ast.FunctionDef)]
            self.assertEqual(len(names), len(set(names)), at)

    def test_locals_have_names_of_their_own(self):
        for name, tree in self.trees.items():
            imported = {alias.asname or alias.name
                        for node in tree.body if isinstance(node, ast.ImportFrom) for alias in node.names}
            bound = imported | set(self.bound_in(tree))
            for function in (node for node in ast.walk(tree) if isinstance(node, ast.FunctionDef)):
                for node in ast.walk(function):
                    if isinstance(node, ast.arg):
                        self.assertNotIn(node.arg, bound, f"{name}.py:{node.lineno}")
                    elif isinstance(node, ast.Name) and isinstance(node.ctx, ast.Store):
                        self.assertNotIn(node.id, bound, f"{name}.py:{node.lineno}")
                    elif isinstance(node, (ast.MatchAs, ast.MatchStar)):
                        self.assertNotIn(node.name, bound | set(dir(builtins)), f"{name}.py:{node.lineno}")

    def test_nothing_is_kept_or_done_at_module_level(self):
        for name, tree in self.trees.items():
            for node in tree.body:
                docstring = isinstance(node, ast.Expr) and isinstance(node.value, ast.Constant)
                plain = (ast.ImportFrom, ast.FunctionDef, ast.ClassDef, ast.Assign)
                self.assertTrue(docstring or isinstance(node, plain), f"{name}.py:{node.lineno}")
                if isinstance(node, ast.Assign):
                    calls = [each for each in ast.walk(node) if isinstance(each, ast.Call)]
                    self.assertEqual(calls, [], f"{name}.py:{node.lineno}")


if __name__ == "__main__":
    unittest.main()
