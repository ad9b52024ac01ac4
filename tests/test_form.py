"""The form of the package: those rules of LANGUAGE.md that can be seen from the written code."""

import ast
import builtins
import pathlib
import re
import unittest

FOLDER = pathlib.Path(__file__).resolve().parent.parent / "splitseed"
PACKAGE = "splitseed"

BUILTINS = set(
    "len range enumerate zip min max sum abs sorted reversed int str bool bytes list tuple dict set frozenset "
    "isinstance ord repr any all divmod Exception ValueError TypeError KeyError IndexError LookupError "
    "ZeroDivisionError ArithmeticError OverflowError RuntimeError NotImplementedError AttributeError "
    "StopIteration".split()
)
METHODS = set(
    "append clear copy count endswith extend find get index insert isalnum isalpha isdigit islower isspace isupper "
    "items join keys ljust lower lstrip partition pop remove replace reverse rfind rjust rpartition rsplit rstrip "
    "setdefault split splitlines startswith strip update upper values zfill bit_length sort add discard".split()
)
DOUBLE = set("__init__ __eq__ __repr__ __str__ __len__ __enter__ __exit__ __call__ __iter__".split())
STATEMENTS = (ast.FunctionDef, ast.ClassDef, ast.ImportFrom, ast.Assign)
BARRED = (
    "type typing typing_extensions enum Enum IntEnum StrEnum Flag IntFlag Generic Protocol ABC ABCMeta namedtuple "
    "NamedTuple TypedDict TYPE_CHECKING abstractmethod register mro elements open input version_info with_traceback "
    "add_note"
).split()
FORBIDDEN = (
    ast.Global, ast.AsyncFunctionDef, ast.AsyncFor, ast.AsyncWith, ast.Await, ast.Import, ast.Set, ast.Div, ast.MatMult,
)


def is_docstring(node):
    return isinstance(node, ast.Expr) and isinstance(node.value, ast.Constant) and isinstance(node.value.value, str)


class Form(unittest.TestCase):
    @classmethod
    def setUpClass(cls):
        cls.texts = {path.stem: path.read_text(encoding="utf-8") for path in sorted(FOLDER.glob("*.py"))}
        cls.trees = {name: ast.parse(text) for name, text in cls.texts.items()}
        cls.bound = {name: cls.names_bound(tree) for name, tree in cls.trees.items()}

    @staticmethod
    def names_bound(tree):
        """The names bound at module level but by imports, in their order."""
        names = []
        for node in tree.body:
            if isinstance(node, (ast.FunctionDef, ast.ClassDef)):
                names.append(node.name)
            elif isinstance(node, ast.Assign):
                names += [target.id for target in node.targets]
        return names

    def nodes(self, *kinds):
        for name, tree in self.trees.items():
            for node in ast.walk(tree):
                if isinstance(node, kinds):
                    yield f"{name}.py:{getattr(node, 'lineno', 0)}", node

    def test_l1_l14_files(self):
        self.assertIn("__init__", self.texts)
        for path in FOLDER.iterdir():
            if path.name != "__pycache__":
                self.assertRegex(path.name, r"^[a-z_][a-z0-9_]*\.py$")

    def test_l10_l14_sizes_and_signs(self):
        for name, text in self.texts.items():
            self.assertRegex(text, r"\A[ -~\n]*\Z", name)
            self.assertLessEqual(text.count("\n"), 400, name)
            for row in text.split("\n"):
                self.assertLessEqual(len(row), 120, f"{name}: {row}")
        for where, node in self.nodes(ast.FunctionDef):
            self.assertLessEqual(node.end_lineno - node.lineno + 1, 40, where)

    def test_l3_l15_module_level(self):
        for name, tree in self.trees.items():
            imported = []
            for at, node in enumerate(tree.body):
                self.assertTrue(isinstance(node, STATEMENTS) or at == 0 and is_docstring(node), f"{name}:{node.lineno}")
                if isinstance(node, ast.ImportFrom):
                    imported += [alias.asname or alias.name for alias in node.names]
            every = imported + self.bound[name]
            self.assertEqual(len(every), len(set(every)), name)

    def test_l2_l16_imports(self):
        edges = {name: set() for name in self.trees}
        for name, tree in self.trees.items():
            for node in ast.walk(tree):
                if isinstance(node, ast.ImportFrom):
                    self.assertIn(node, tree.body, name)
                    self.assertEqual(node.level, 0)
                    package, source = node.module.split(".")
                    self.assertEqual(package, PACKAGE)
                    for alias in node.names:
                        self.assertIn(alias.name, self.bound[source], f"{name} from {source}")
                    edges[name].add(source)
        while edges:
            free = [name for name in edges if not edges[name]]
            self.assertTrue(free, f"imports go round among {sorted(edges)}")
            edges = {name: edges[name] - set(free) for name in edges if name not in free}

    def test_no_import_is_idle(self):
        for name, tree in self.trees.items():
            used = {node.id for node in ast.walk(tree) if isinstance(node, ast.Name)}
            for node in tree.body:
                if isinstance(node, ast.ImportFrom):
                    for alias in node.names:
                        self.assertIn(alias.name, used, name)

    def test_l6_l7_what_is_not_written(self):
        for where, node in self.nodes(*FORBIDDEN):
            self.fail(f"{where}: {type(node).__name__}")
        for where, node in self.nodes(ast.Constant):
            self.assertNotIsInstance(node.value, (float, complex), where)
            if isinstance(node.value, str):
                self.assertNotIn("%", node.value, where)
        for where, node in self.nodes(ast.BinOp):
            if isinstance(node.op, ast.Pow):
                self.assertIsInstance(node.right, ast.Constant, where)
                self.assertIn(node.right.value, range(65), where)

    def test_l12_l17_names(self):
        for name, text in self.texts.items():
            for word in BARRED:
                self.assertIsNone(re.search(rf"\b{word}\b", text), f"{name}: {word}")
            for word in ("dataclass", "overload", "contextmanager"):
                self.assertNotIn(word, text, name)
        for where, node in self.nodes(ast.Name, ast.arg, ast.Attribute, ast.FunctionDef, ast.ClassDef):
            name = getattr(node, "id", None) or getattr(node, "arg", None) or getattr(node, "attr", None) or node.name
            self.assertTrue(not name.startswith("_") or name in DOUBLE, f"{where}: {name}")

    def test_l8_l15_builtins_and_shadows(self):
        every = set(dir(builtins))
        for name, tree in self.trees.items():
            imports = [alias.name for node in tree.body if isinstance(node, ast.ImportFrom) for alias in node.names]
            barred = every | set(imports) | {node.name for node in tree.body if isinstance(node, ast.ClassDef)}
            for node in ast.walk(tree):
                if isinstance(node, ast.arg):
                    self.assertNotIn(node.arg, barred, name)
                elif isinstance(node, ast.Name) and isinstance(node.ctx, ast.Store):
                    self.assertNotIn(node.id, barred, name)
                elif isinstance(node, ast.Name) and node.id in every:
                    self.assertIn(node.id, BUILTINS, f"{name}:{node.lineno}")

    def test_l18_l25_l26_methods_and_attributes(self):
        methods, attributes = set(), set()
        for where, node in self.nodes(ast.ClassDef):
            names = [part.name for part in node.body if isinstance(part, ast.FunctionDef)]
            self.assertEqual(len(names), len(set(names)), where)
            methods |= set(names)
            for part in node.body:
                self.assertTrue(isinstance(part, ast.FunctionDef) or is_docstring(part), where)
        for where, node in self.nodes(ast.Attribute):
            if isinstance(node.ctx, ast.Store):
                attributes.add(node.attr)
        self.assertEqual(methods & attributes, set())
        builtin_methods = {name for kind in (str, int, list, dict, set, bytes, tuple) for name in dir(kind)}
        self.assertEqual((methods | attributes) & builtin_methods - {"__init__"}, set())
        called = {id(node.func) for where, node in self.nodes(ast.Call)}
        for where, node in self.nodes(ast.Attribute):
            known = methods | METHODS if id(node) in called else attributes
            self.assertIn(node.attr, known, where)

    def test_l19_errors(self):
        errors = {name for name in self.bound["errors"]}
        for where, node in self.nodes(ast.Raise):
            if node.exc is not None:
                self.assertIsInstance(node.exc, ast.Call, where)
                # A class that is not made by itself has its methods in its body, but nothing to answer.
                self.assertIn(node.exc.func.id, errors | {"NotImplementedError"}, where)
        for where, node in self.nodes(ast.ExceptHandler):
            kinds = node.type.elts if isinstance(node.type, ast.Tuple) else [node.type]
            for kind in kinds:
                self.assertIn(kind.id, errors, where)

    def test_l20_is(self):
        for where, node in self.nodes(ast.Compare):
            for sign, other in zip(node.ops, node.comparators):
                if isinstance(sign, (ast.Is, ast.IsNot)):
                    self.assertIsInstance(other, ast.Constant, where)
                    self.assertIn(other.value, (None, True, False), where)

    def test_l23_iterated_at_once(self):
        at_once = set()
        for where, node in self.nodes(ast.For, ast.comprehension):
            at_once.add(id(node.iter))
        for where, node in self.nodes(ast.Call):
            name = node.func.id if isinstance(node.func, ast.Name) else node.func.attr
            if name in ("list", "tuple", "dict", "sorted", "sum", "any", "all", "enumerate", "zip", "min", "max", "join"):
                at_once |= {id(argument) for argument in node.args}
        for where, node in self.nodes(ast.Call):
            name = node.func.id if isinstance(node.func, ast.Name) else node.func.attr
            if name in ("zip", "enumerate", "reversed", "range", "items", "keys", "values"):
                self.assertIn(id(node), at_once, where)

    def test_l18_classes_are_not_passed_on(self):
        classes = {node.name for where, node in self.nodes(ast.ClassDef)}
        allowed = set()
        for where, node in self.nodes(ast.Call):
            allowed.add(id(node.func))
            if isinstance(node.func, ast.Name) and node.func.id == "isinstance":
                allowed.add(id(node.args[1]))
            if isinstance(node.func, ast.Attribute) and node.func.attr == "__init__":
                allowed.add(id(node.func.value))
        for where, node in self.nodes(ast.ClassDef):
            allowed |= {id(base) for base in node.bases}
        for where, node in self.nodes(ast.ExceptHandler):
            allowed |= {id(inner) for inner in ast.walk(node.type)}
        for where, node in self.nodes(ast.Name):
            if node.id in classes:
                self.assertIn(id(node), allowed, where)


if __name__ == "__main__":
    unittest.main()
