"""The package keeps to its small part of Python: what can be seen in the code's tree is looked at here."""

import ast
import builtins
import re
import unittest
from pathlib import Path

FOLDER = Path(__file__).resolve().parent.parent / "bookpack"
FILES = sorted(FOLDER.glob("*.py"))
TREES = {path.stem: ast.parse(path.read_text()) for path in FILES}
BUILTINS = set(
    "len range enumerate zip min max sum abs sorted reversed int str bool list tuple dict set isinstance ord repr any all"
    " divmod Exception ValueError TypeError KeyError IndexError LookupError NotImplemented iter next property classmethod"
    " staticmethod".split()
)
METHODS = set(
    "append clear copy count endswith extend find get index insert isalnum isalpha isdigit islower isspace isupper items"
    " join keys ljust lower lstrip partition pop remove replace reverse rfind rjust rpartition rsplit rstrip setdefault"
    " split splitlines startswith strip update upper values zfill bit_length add discard".split()
)
SPECIAL = set(
    "__init__ __eq__ __repr__ __str__ __len__ __call__ __iter__ __lt__ __le__ __add__ __bool__ __contains__ __getitem__".split()
)
STATEMENTS = (
    ast.Assign, ast.AugAssign, ast.If, ast.While, ast.For, ast.Return, ast.Break, ast.Continue, ast.Pass, ast.Raise,
    ast.Delete, ast.Try, ast.Expr, ast.FunctionDef, ast.ClassDef, ast.ImportFrom,
)
WORDS = (
    "type typing typing_extensions enum Enum IntEnum StrEnum Flag IntFlag Generic Protocol ABC ABCMeta namedtuple"
    " NamedTuple TypedDict TYPE_CHECKING abstractmethod"
).split()
NAMES = set(
    "register mro elements open input law version_info with_traceback add_note attrgetter breakpoint builtins compile"
    " copyright credits delattr dir eval exec exit gc globals help id importlib license locals methodcaller os quit super"
    " type vars".split()
)


def nodes(kind):
    for name, tree in TREES.items():
        for found in ast.walk(tree):
            if isinstance(found, kind):
                yield name, found


def is_plain(found):
    """Whether an expression plainly is a number or a string, or a list of such."""
    if isinstance(found, ast.Constant):
        return isinstance(found.value, (int, str))
    if isinstance(found, ast.BinOp):
        return is_plain(found.left) and is_plain(found.right)
    if isinstance(found, ast.Call) and isinstance(found.func, ast.Name):
        return found.func.id in ("len", "int", "ord", "str", "repr", "range")
    return isinstance(found, ast.ListComp) and is_plain(found.elt)


class Language(unittest.TestCase):
    def test_files(self):
        self.assertEqual(sorted(path.name for path in FOLDER.iterdir() if path.name != "__pycache__"),
                         [path.name for path in FILES])
        for path in FILES:
            text = path.read_text()
            self.assertTrue(all(c == "\n" or " " <= c <= "~" for c in text), path)
            lines = text.splitlines()
            self.assertLessEqual(len(lines), 399, path)
            self.assertLessEqual(max(len(row) for row in lines), 120, path)
            self.assertTrue(path.stem == "__init__" or re.fullmatch("[a-z][a-z0-9_]*", path.stem), path)

    def test_module_level(self):
        for name, tree in TREES.items():
            self.assertIsInstance(tree.body[0], ast.Expr, name)
            bound = []
            for row in tree.body[1:]:
                self.assertIsInstance(row, (ast.ImportFrom, ast.FunctionDef, ast.ClassDef, ast.Assign), name)
                if isinstance(row, ast.Assign):
                    ast.literal_eval(row.value)
                    bound.append(row.targets[0].id)
                elif isinstance(row, ast.ImportFrom):
                    bound.extend(alias.name for alias in row.names)
                else:
                    bound.append(row.name)
            self.assertEqual(len(bound), len(set(bound)), name)

    def test_imports(self):
        graph = {name: [] for name in TREES}
        for name, row in nodes(ast.ImportFrom):
            self.assertEqual(row.level, 0)
            package, module = row.module.split(".")
            self.assertEqual(package, "bookpack")
            graph[name].append(module)
            own = {thing.name for thing in TREES[module].body if isinstance(thing, (ast.FunctionDef, ast.ClassDef))}
            own |= {thing.targets[0].id for thing in TREES[module].body if isinstance(thing, ast.Assign)}
            for alias in row.names:
                self.assertIsNone(alias.asname)
                self.assertIn(alias.name, own)
                used = [found for found in ast.walk(TREES[name]) if isinstance(found, ast.Name) and found.id == alias.name]
                self.assertTrue(used, (name, alias.name))
        while graph:
            free = [name for name, needs in graph.items() if not any(need in graph for need in needs)]
            self.assertTrue(free, graph)
            for name in free:
                del graph[name]

    def test_statements(self):
        for name, row in nodes(ast.stmt):
            self.assertIsInstance(row, STATEMENTS, (name, row.lineno))
        for kind in (ast.Lambda, ast.GeneratorExp, ast.Set, ast.SetComp, ast.NamedExpr, ast.JoinedStr, ast.YieldFrom, ast.Div,
                     ast.Await):
            self.assertEqual([(name, found) for name, found in nodes(kind)], [])

    def test_functions(self):
        for name, row in nodes(ast.FunctionDef):
            self.assertLessEqual(row.end_lineno - row.lineno + 1, 40, (name, row.name))
            for decorator in row.decorator_list:
                self.assertIn(decorator.id, ("property", "classmethod"), (name, row.name))
            if row.name.startswith("__"):
                self.assertIn(row.name, SPECIAL)
            else:
                self.assertTrue(ast.get_docstring(row) or row.name.startswith("_"), (name, row.name))
            for default in row.args.defaults + [each for each in row.args.kw_defaults if each is not None]:
                ast.literal_eval(default)

    def test_names(self):
        loaded = {found.id for _, found in nodes(ast.Name) if isinstance(found.ctx, ast.Load)}
        self.assertLessEqual(loaded & set(dir(builtins)), BUILTINS)
        given = {found.id for _, found in nodes(ast.Name) if isinstance(found.ctx, ast.Store)}
        given |= {found.arg for _, found in nodes(ast.arg)}
        given |= {found.name for _, found in nodes((ast.FunctionDef, ast.ClassDef))}
        self.assertEqual(given & (set(dir(builtins)) | NAMES), set())
        for name in given:
            self.assertRegex(name, "^(__[a-z]+__|_?[A-Za-z][A-Za-z0-9_]*|_)$")
        for name, tree in TREES.items():
            bound = {alias.name for row in tree.body if isinstance(row, ast.ImportFrom) for alias in row.names}
            bound |= {row.name for row in tree.body if isinstance(row, ast.ClassDef)}
            local = {found.id for found in ast.walk(tree) if isinstance(found, ast.Name) and isinstance(found.ctx, ast.Store)}
            local |= {found.arg for found in ast.walk(tree) if isinstance(found, ast.arg)}
            self.assertEqual(bound & local, set(), name)

    def test_methods(self):
        own = {row.name for _, found in nodes(ast.ClassDef) for row in found.body if isinstance(row, ast.FunctionDef)}
        called = {found.func.attr for _, found in nodes(ast.Call) if isinstance(found.func, ast.Attribute)}
        self.assertLessEqual(called, METHODS | own)
        stored = {found.attr for _, found in nodes(ast.Attribute) if isinstance(found.ctx, ast.Store)}
        self.assertEqual(stored & own, set())
        for name, found in nodes(ast.Attribute):
            if isinstance(found.ctx, ast.Store):
                self.assertEqual(found.value.id, "self", name)
            else:
                self.assertIn(found.attr, METHODS | own | stored, name)

    def test_calls_of_builtins(self):
        for name, found in nodes(ast.Call):
            if not isinstance(found.func, ast.Name):
                continue
            words = {word.arg for word in found.keywords}
            if found.func.id in ("sorted", "min", "max"):
                self.assertTrue(any(is_plain(value) for value in found.args), (name, found.lineno))
                self.assertLessEqual(words, {"default"})
            elif found.func.id in BUILTINS:
                self.assertEqual(words, set(), (name, found.lineno))
            if found.func.id in ("zip", "enumerate", "reversed"):
                self.assertNotIsInstance(found.args[0], ast.Name if found.func.id == "reversed" else ast.GeneratorExp)

    def test_generators_are_iterated_at_once(self):
        made = {row.name for _, row in nodes(ast.FunctionDef)
                if any(isinstance(found, ast.Yield) for found in ast.walk(row))}
        self.assertEqual(made, {"chain"})
        heads = [found.iter for _, found in nodes((ast.For, ast.comprehension))]
        heads += [found.args[0] for _, found in nodes(ast.Call)
                  if isinstance(found.func, ast.Name) and found.func.id in ("list", "tuple")]
        for name, found in nodes(ast.Name):
            if found.id in made:
                self.assertTrue([head for head in heads if isinstance(head, ast.Call) and head.func is found], name)

    def test_finally(self):
        for name, found in nodes(ast.Try):
            for row in found.finalbody:
                for inner in ast.walk(row):
                    self.assertNotIsInstance(inner, (ast.Call, ast.BinOp, ast.Return, ast.Raise, ast.Subscript), name)
                if isinstance(row, ast.If):
                    self.assertIsInstance(row.test.ops[0], (ast.Is, ast.IsNot), name)

    def test_identity(self):
        for name, found in nodes(ast.Compare):
            for sign, value in zip(found.ops, found.comparators):
                if isinstance(sign, (ast.Is, ast.IsNot)):
                    self.assertIsInstance(value, ast.Constant, (name, found.lineno))
                    self.assertIn(value.value, (None, True, False))

    def test_errors(self):
        own = {row.name for row in TREES["errors"].body if isinstance(row, ast.ClassDef)}
        for name, found in nodes(ast.Raise):
            if found.exc is not None:
                self.assertIn(found.exc.func.id, own | {"TypeError"}, name)
                self.assertEqual(found.exc.keywords, [], name)
        for name, found in nodes(ast.ExceptHandler):
            self.assertIn(found.type.id, own, name)

    def test_words(self):
        for name, tree in TREES.items():
            docs = [row.body[0].value for row in ast.walk(tree)
                    if isinstance(row, (ast.Module, ast.FunctionDef, ast.ClassDef)) and ast.get_docstring(row)]
            for found in ast.walk(tree):
                if isinstance(found, ast.Constant) and isinstance(found.value, str) and found not in docs:
                    self.assertNotIn("%", found.value, name)
                    for word in WORDS:
                        self.assertIsNone(re.search(rf"\b{word}\b", found.value), (name, word))
                if isinstance(found, ast.Constant):
                    self.assertNotIsInstance(found.value, (float, bytes, complex))
