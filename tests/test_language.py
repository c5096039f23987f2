"""Holds the files of the package against the rules of LANGUAGE.md that can be seen in their text."""

import ast
import builtins
import pathlib
import re
import unittest

FOLDER = pathlib.Path(__file__).resolve().parent.parent / "frameshare"
FILES = sorted(path for path in FOLDER.rglob("*") if "__pycache__" not in path.parts)

BUILTINS = set(
    "len range enumerate zip min max sum abs sorted reversed int str bool bytes list tuple dict set isinstance ord "
    "repr any all divmod Exception ValueError TypeError KeyError IndexError LookupError ZeroDivisionError "
    "ArithmeticError OverflowError RuntimeError NotImplementedError AttributeError StopIteration NotImplemented "
    "super".split()
)
METHODS = set(
    "append clear copy count endswith extend find get index insert isalnum isalpha isdigit islower isspace isupper "
    "items join keys ljust lower lstrip partition pop remove replace reverse rfind rjust rpartition rsplit rstrip "
    "setdefault split splitlines startswith strip update upper values zfill bit_length add discard sort".split()
)
BARRED_WORDS = (
    r"\b(type|typing|typing_extensions|enum|Enum|IntEnum|StrEnum|Flag|IntFlag|Generic|Protocol|ABC|ABCMeta|"
    r"namedtuple|NamedTuple|TypedDict|TYPE_CHECKING|abstractmethod)\b|dataclass|overload|contextmanager"
)
BARRED_NODES = (
    ast.Global, ast.AsyncFunctionDef, ast.AsyncFor, ast.AsyncWith, ast.Await, ast.Import, ast.Div, ast.MatMult,
    ast.AnnAssign,
)
BARRED_ATTRIBUTES = set(
    "items keys values pop update append clear extend insert remove reverse setdefault sort args encode decode hex "
    "fromhex format format_map mro register elements open input".split()
)
TOP_NODES = (ast.ImportFrom, ast.FunctionDef, ast.ClassDef, ast.Assign)


def trees():
    return [(path, ast.parse(path.read_text(encoding="utf-8"))) for path in FILES if path.suffix == ".py"]


def is_plain(node, functions):
    """Whether it's a plain value, or a list, tuple or dict of these and of functions that are defined above."""
    if isinstance(node, ast.Name):
        return node.id in functions
    if isinstance(node, ast.Dict):
        return all(is_plain(part, functions) for part in node.keys + node.values)
    if isinstance(node, (ast.List, ast.Tuple)):
        return all(is_plain(part, functions) for part in node.elts)
    return isinstance(node, ast.Constant) and type(node.value) in (int, str, bytes, bool, type(None))


def nodes_of(kinds):
    return [(path, node) for path, tree in trees() for node in ast.walk(tree) if isinstance(node, kinds)]


def is_docstring(node):
    return isinstance(node, ast.Expr) and isinstance(node.value, ast.Constant) and isinstance(node.value.value, str)


def is_set(node):
    """Whether a set is made here."""
    if isinstance(node, ast.Call):
        return isinstance(node.func, ast.Name) and node.func.id == "set"
    return isinstance(node, (ast.Set, ast.SetComp))


def bound_names(node):
    """The names that a node binds."""
    if isinstance(node, ast.Name):
        return [node.id] if isinstance(node.ctx, ast.Store) else []
    if isinstance(node, (ast.FunctionDef, ast.ClassDef)):
        return [node.name]
    if isinstance(node, ast.arg):
        return [node.arg]
    if isinstance(node, ast.alias):
        return [node.asname or node.name]
    return []


def top_names(tree):
    return [name for node in tree.body for part in ([node] + list(getattr(node, "names", []))
            + list(getattr(node, "targets", []))) for name in bound_names(part)]


class LanguageTest(unittest.TestCase):
    def test_files(self):
        self.assertIn(FOLDER / "__init__.py", FILES)
        for path in FILES:
            self.assertRegex(path.name, r"^([a-z][a-z0-9_]*|__init__)\.py$")
            self.assertNotIn(path.stem, dir(builtins))
            self.assertNotRegex(path.stem, r"^(test|tests|testing|test_.*|law_.*|site|conftest)$")

    def test_characters_and_sizes(self):
        for path in FILES:
            text = path.read_text(encoding="utf-8")
            self.assertRegex(text, r"\A[ -~\n]*\Z", path)
            self.assertIsNone(re.search(BARRED_WORDS, text), path)
            lines = text.split("\n")
            self.assertLessEqual(len(lines), 401, path)
            self.assertLessEqual(max(len(line) for line in lines), 120, path)
        for path, node in nodes_of(ast.FunctionDef):
            self.assertLessEqual(node.end_lineno - node.lineno + 1, 40, (path, node.name))

    def test_module_level(self):
        for path, tree in trees():
            names = top_names(tree)
            self.assertEqual(len(names), len(set(names)), path)
            functions = set()
            for at, node in enumerate(tree.body):
                if not (at == 0 and is_docstring(node)):
                    self.assertIsInstance(node, TOP_NODES, (path, node.lineno))
                if isinstance(node, ast.FunctionDef):
                    functions.add(node.name)
                if isinstance(node, ast.Assign):
                    self.assertTrue(is_plain(node.value, functions), (path, node.lineno))

    def test_lists_and_dicts_at_module_level_hold_none_and_are_only_read(self):
        for path, tree in trees():
            for node in tree.body:
                if isinstance(node, ast.Assign) and isinstance(node.value, (ast.Dict, ast.List)):
                    inner = [part for part in ast.walk(node.value) if isinstance(part, (ast.Dict, ast.List))]
                    self.assertEqual(inner, [node.value], path)
                    above = {id(part): outer for outer in ast.walk(tree) for part in ast.iter_child_nodes(outer)}
                    for part in ast.walk(tree):
                        if isinstance(part, ast.Name) and part.id == node.targets[0].id and part not in node.targets:
                            self.assertIsInstance(above[id(part)], (ast.Compare, ast.Subscript), (path, part.lineno))
                            self.assertNotIsInstance(getattr(above[id(part)], "ctx", None), (ast.Store, ast.Del), path)

    def test_what_is_called_has_a_plain_name(self):
        for path, node in nodes_of(ast.Call):
            self.assertIsInstance(node.func, (ast.Name, ast.Attribute), (path, node.lineno))

    def test_imports(self):
        homes = {f"frameshare.{path.stem}": tree for path, tree in trees()}
        asked = {name: set() for name in homes}
        for name, tree in homes.items():
            ahead = True
            for node in tree.body:
                ahead = ahead and (is_docstring(node) or isinstance(node, ast.ImportFrom))
                if isinstance(node, ast.ImportFrom):
                    self.assertTrue(ahead, name)
                    self.assertEqual(node.level, 0, name)
                    self.assertIn(node.module, homes, name)
                    asked[name].add(node.module)
                    defined = [part.name for part in homes[node.module].body if hasattr(part, "name")]
                    defined += [target.id for part in homes[node.module].body if isinstance(part, ast.Assign)
                                for target in part.targets]
                    for alias in node.names:
                        self.assertIn(alias.name, defined, name)
        while asked:
            free = [name for name in asked if not asked[name] & set(asked)]
            self.assertTrue(free, f"files that import from each other: {sorted(asked)}")
            for name in free:
                del asked[name]

    def test_names(self):
        for path, tree in trees():
            imported = [alias.name for node in tree.body if isinstance(node, ast.ImportFrom) for alias in node.names]
            classes = [node.name for node in tree.body if isinstance(node, ast.ClassDef)]
            local = [name for node in ast.walk(tree) if isinstance(node, (ast.Name, ast.arg))
                     for name in bound_names(node)]
            for name in local:
                self.assertNotIn(name, dir(builtins), path)
                self.assertNotIn(name, imported + classes, path)
                self.assertNotRegex(name, r"^_", path)
            for node in ast.walk(tree):
                for name in bound_names(node):
                    self.assertNotRegex(name, r"^_(?!_init__$|_len__$|_eq__$|_repr__$|_str__$)", path)

    def test_only_told_builtins_and_methods(self):
        own = {node.name for path, node in nodes_of(ast.FunctionDef)}
        for path, tree in trees():
            bound = {name for node in ast.walk(tree) for name in bound_names(node)}
            for node in ast.walk(tree):
                if isinstance(node, ast.Name) and node.id not in bound:
                    self.assertIn(node.id, BUILTINS, (path, node.lineno))
                if isinstance(node, ast.Call) and isinstance(node.func, ast.Attribute):
                    self.assertIn(node.func.attr, METHODS | own, (path, node.lineno))

    def test_no_barred_statements_and_values(self):
        self.assertEqual(nodes_of(BARRED_NODES), [])
        for path, node in nodes_of(ast.Constant):
            self.assertNotIsInstance(node.value, (float, complex), (path, node.lineno))
            if isinstance(node.value, str):
                self.assertNotIn("%", node.value, (path, node.lineno))
        for path, node in nodes_of(ast.FunctionDef):
            self.assertEqual(node.args.posonlyargs, [], (path, node.name))
            for decorator in node.decorator_list:
                self.assertIn(ast.unparse(decorator), ("property", "staticmethod", "classmethod"), path)

    def test_no_name_is_a_method_and_an_attribute(self):
        methods = {part.name for path, node in nodes_of(ast.ClassDef) for part in node.body
                   if isinstance(part, ast.FunctionDef)}
        kept = {node.attr for path, node in nodes_of(ast.Attribute) if isinstance(node.ctx, ast.Store)}
        self.assertEqual(methods & kept, set())
        self.assertEqual(kept & BARRED_ATTRIBUTES, set())
        for path, node in nodes_of(ast.Attribute):
            self.assertIn(node.attr, kept | methods | METHODS, (path, node.lineno))

    def test_sets_stand_where_told(self):
        for path, tree in trees():
            above = {id(inner): outer for outer in ast.walk(tree) for inner in ast.iter_child_nodes(outer)}
            for node in ast.walk(tree):
                if is_set(node):
                    outer = above[id(node)]
                    while isinstance(outer, ast.BinOp):
                        outer = above[id(outer)]
                    told = isinstance(outer, (ast.Compare, ast.Assign)) or (
                        isinstance(outer, ast.Call) and ast.unparse(outer.func) in ("sorted", "len"))
                    self.assertTrue(told, (path, node.lineno))

    def test_is_stands_beside_none_true_and_false_alone(self):
        for path, node in nodes_of(ast.Compare):
            for sign, other in zip(node.ops, node.comparators):
                if isinstance(sign, (ast.Is, ast.IsNot)):
                    self.assertIn(ast.unparse(other), ("None", "True", "False"), (path, node.lineno))

    def test_errors_are_caught_and_raised_by_name(self):
        for path, node in nodes_of(ast.ExceptHandler):
            self.assertIsNotNone(node.type, path)
            self.assertNotIn(ast.unparse(node.type), ("Exception", "TypeError", "BaseException"), path)
        for path, node in nodes_of(ast.Raise):
            self.assertTrue(node.exc is None or isinstance(node.exc, ast.Call), (path, node.lineno))


if __name__ == "__main__":
    unittest.main()
