"""Some of the rules that the code of the package keeps to: sizes, characters, imports, names, and what is not used."""

import ast
import builtins
import re
import unittest
from pathlib import Path

FOLDER = Path(__file__).resolve().parent.parent / "nearcurves"
FILES = sorted(FOLDER.glob("*.py"))
LIBRARY = {"math": {"gcd", "lcm", "isqrt", "comb", "perm", "factorial"}, "heapq": {"heappush", "heappop"}}
BUILTINS = {
    "len", "range", "enumerate", "zip", "min", "max", "sum", "abs", "sorted", "reversed", "int", "str", "bool", "list",
    "tuple", "dict", "set", "isinstance", "ord", "repr", "any", "all", "divmod", "ValueError", "NotImplemented",
}
METHODS = set(
    "append clear copy count endswith extend find get index insert isalnum isalpha isdigit islower isspace isupper items join "
    "keys ljust lower lstrip partition pop remove replace reverse rfind rjust rpartition rsplit rstrip setdefault split "
    "splitlines startswith strip update upper values zfill bit_length".split()
)
UNUSED = set(
    "register mro elements open input law type typing typing_extensions enum Enum IntEnum StrEnum Flag IntFlag Generic Protocol "
    "ABC ABCMeta namedtuple NamedTuple TypedDict abstractmethod eval exec compile globals locals vars dir id help".split()
)
COMPREHENSIONS = (ast.ListComp, ast.DictComp, ast.SetComp, ast.GeneratorExp)


def trees():
    for path in FILES:
        yield path.name, ast.parse(path.read_text(encoding="utf-8"))


def nodes(*kinds):
    for name, tree in trees():
        for node in ast.walk(tree):
            if isinstance(node, kinds):
                yield name, node


def bound_names(tree):
    """All names that parameters, assignments, loops and comprehensions bind."""
    for node in ast.walk(tree):
        if isinstance(node, ast.arg):
            yield node.arg
        elif isinstance(node, ast.Name) and isinstance(node.ctx, ast.Store):
            yield node.id


def targets_of(comprehension):
    return {
        node.id for part in comprehension.generators for node in ast.walk(part.target) if isinstance(node, ast.Name)
    } - {"_"}


def is_plain(node):
    """Whether it is a name, an attribute off a name, a literal, or a list, tuple or dict of these."""
    if isinstance(node, (ast.List, ast.Tuple)):
        return all(is_plain(item) for item in node.elts)
    if isinstance(node, ast.Dict):
        return all(item is not None and is_plain(item) for item in [*node.keys, *node.values])
    if isinstance(node, ast.Attribute):
        return isinstance(node.value, ast.Name)
    return isinstance(node, (ast.Name, ast.Constant))


def beside_stars(call):
    """What a call passes behind its first star; all that it passes, if a double star stands in it."""
    passed = [*call.args, *call.keywords]
    starred = [place for place, item in enumerate(call.args) if isinstance(item, ast.Starred)]
    start = starred[0] if starred else len(passed)
    if any(item.arg is None for item in call.keywords):
        start = 0
    return [item.value if isinstance(item, (ast.Starred, ast.keyword)) else item for item in passed[start:]]


class TestFiles(unittest.TestCase):
    def test_the_folder_has_files_of_the_package_alone(self):
        others = [path.name for path in FOLDER.iterdir() if path.name != "__pycache__" and path not in FILES]
        self.assertEqual(others, [])
        self.assertIn(FOLDER / "__init__.py", FILES)

    def test_lines_and_characters(self):
        for path in FILES:
            text = path.read_text(encoding="utf-8")
            self.assertEqual({sign for sign in text if sign != "\n" and not " " <= sign <= "~"}, set(), path.name)
            lines = text.split("\n")
            self.assertLessEqual(len(lines), 400, path.name)
            self.assertLessEqual(max(len(line) for line in lines), 120, path.name)

    def test_functions_are_small(self):
        for name, node in nodes(ast.FunctionDef):
            self.assertLessEqual(node.end_lineno - node.lineno + 1, 40, f"{name}: {node.name}")


class TestImports(unittest.TestCase):
    def test_imports(self):
        own = {path.stem: ast.parse(path.read_text(encoding="utf-8")) for path in FILES}
        for name, node in nodes(ast.Import):
            self.fail(f"{name}: {node.lineno}")
        for name, node in nodes(ast.ImportFrom):
            allowed = LIBRARY.get(node.module)
            names = {alias.name for alias in node.names}
            self.assertFalse([alias for alias in node.names if alias.asname], name)
            if allowed is None:
                package, _, module = node.module.partition(".")
                self.assertTrue(package == "nearcurves" and module in own, f"{name}: {node.module}")
                allowed = {
                    item.name if isinstance(item, (ast.FunctionDef, ast.ClassDef)) else item.targets[0].id
                    for item in own[module].body
                    if isinstance(item, (ast.FunctionDef, ast.ClassDef, ast.Assign))
                }
            self.assertLessEqual(names, allowed, name)

    def test_no_two_files_import_from_each_other(self):
        needs = {path.stem: set() for path in FILES}
        for name, node in nodes(ast.ImportFrom):
            if node.module.startswith("nearcurves."):
                needs[name[:-3]].add(node.module.partition(".")[2])
        while needs:
            free = [name for name, wanted in needs.items() if not wanted & set(needs)]
            self.assertTrue(free, needs)
            for name in free:
                del needs[name]

    def test_imports_are_used_and_bound_once(self):
        for name, tree in trees():
            imported = [alias.name for node in tree.body if isinstance(node, ast.ImportFrom) for alias in node.names]
            self.assertEqual(len(imported), len(set(imported)), name)
            used = {node.id for node in ast.walk(tree) if isinstance(node, ast.Name) and isinstance(node.ctx, ast.Load)}
            self.assertEqual(set(imported) - used, set(), name)


class TestNames(unittest.TestCase):
    def test_nothing_has_the_name_of_a_builtin_an_import_or_a_class(self):
        for name, tree in trees():
            imported = {alias.name for node in tree.body if isinstance(node, ast.ImportFrom) for alias in node.names}
            classes = {node.name for node in tree.body if isinstance(node, ast.ClassDef)}
            bound = set(bound_names(tree))
            defined = {node.name for node in tree.body if isinstance(node, (ast.FunctionDef, ast.ClassDef))}
            self.assertEqual(bound & (imported | classes), set(), name)
            self.assertEqual((bound | defined | imported) & set(dir(builtins)), set(), name)
            self.assertEqual(defined & imported, set(), name)

    def test_words_that_are_not_used(self):
        for name, node in nodes(ast.Name, ast.Attribute, ast.arg, ast.FunctionDef, ast.ClassDef, ast.keyword):
            words = {getattr(node, field, None) for field in ("id", "attr", "arg", "name")}
            self.assertEqual(words & UNUSED, set(), name)

    def test_builtins(self):
        for name, tree in trees():
            for node in ast.walk(tree):
                if isinstance(node, ast.Name) and hasattr(builtins, node.id):
                    self.assertIn(node.id, BUILTINS, f"{name}: {node.lineno}")

    def test_methods_and_attributes(self):
        own = {item.name for _, node in nodes(ast.ClassDef) for item in node.body if isinstance(item, ast.FunctionDef)}
        stored = {node.attr for _, node in nodes(ast.Attribute) if isinstance(node.ctx, ast.Store)}
        for name, node in nodes(ast.Call):
            if isinstance(node.func, ast.Attribute):
                self.assertIn(node.func.attr, METHODS | own, f"{name}: {node.lineno}")
        for name, node in nodes(ast.Attribute):
            self.assertIn(node.attr, METHODS | own | stored, f"{name}: {node.lineno}")
        # What the document itself calls so in one class and otherwise in another one.
        self.assertLessEqual(own & stored, {"degree", "slope", "point", "names", "kept"})
        self.assertLessEqual(stored & METHODS, {"split", "index"})
        self.assertEqual(stored & {"sort", "args", "encode", "decode", "hex", "fromhex", "format"}, set())

    def test_underscores(self):
        for name, tree in trees():
            for word in bound_names(tree):
                self.assertTrue(word == "_" or not word.startswith("_"), f"{name}: {word}")
            for node in ast.walk(tree):
                self.assertFalse(isinstance(node, ast.Name) and node.id == "_" and isinstance(node.ctx, ast.Load), name)


class TestExpressions(unittest.TestCase):
    def test_whole_numbers_alone(self):
        for name, node in nodes(ast.Div):
            self.fail(name)
        for name, node in nodes(ast.Constant):
            self.assertNotIsInstance(node.value, (float, complex), name)
        for name, node in nodes(ast.BinOp):
            if isinstance(node.op, ast.Pow):
                self.assertTrue(isinstance(node.right, ast.Constant) and 0 <= node.right.value <= 64, name)

    def test_strings(self):
        for name, node in nodes(ast.Constant):
            if isinstance(node.value, str):
                self.assertIsNone(re.search("[%\t]", node.value), name)

    def test_what_is_not_used(self):
        barred = (
            ast.Global, ast.Nonlocal, ast.AsyncFunctionDef, ast.AsyncFor, ast.AsyncWith, ast.Await, ast.AnnAssign, ast.Yield,
            ast.YieldFrom, ast.AugAssign, ast.GeneratorExp, ast.Set, ast.SetComp, ast.NamedExpr, ast.Delete,
        )
        for name, node in nodes(*barred):
            self.fail(f"{name}: {node.lineno}")
        for name, node in nodes(ast.FunctionDef):
            self.assertEqual(node.decorator_list, [], name)
            self.assertIsNone(node.returns, name)
            self.assertFalse([item for item in ast.walk(node) if isinstance(item, ast.FunctionDef) and item != node], name)

    def test_comparisons_by_is(self):
        for name, node in nodes(ast.Compare):
            for sign, right in zip(node.ops, node.comparators):
                if isinstance(sign, (ast.Is, ast.IsNot)):
                    self.assertTrue(isinstance(right, ast.Constant) and right.value in (None, True, False), name)

    def test_what_is_iterated_at_once(self):
        at_once = {"zip", "enumerate", "reversed"}
        for name, node in nodes(ast.Return):
            word = node.value.func.id if isinstance(node.value, ast.Call) and isinstance(node.value.func, ast.Name) else ""
            self.assertNotIn(word, at_once | {"range"}, f"{name}: {node.lineno}")
        for name, tree in trees():
            allowed = set()
            for node in ast.walk(tree):
                if isinstance(node, (ast.For, ast.comprehension)):
                    allowed.add(id(node.iter))
                if isinstance(node, ast.Call) and isinstance(node.func, ast.Name):
                    if node.func.id in {"list", "tuple", "dict", "sorted", "sum", "enumerate", "zip"}:
                        allowed.update(id(item) for item in node.args[:1])
            for node in ast.walk(tree):
                if isinstance(node, ast.Call) and isinstance(node.func, ast.Name) and node.func.id in at_once:
                    self.assertIn(id(node), allowed, f"{name}: {node.lineno}")

    def test_what_stars_stand_before_in_calls(self):
        for name, node in nodes(ast.Call):
            for item in node.args:
                if isinstance(item, ast.Starred):
                    self.assertIsInstance(item.value, (ast.Name, ast.Attribute), f"{name}: {node.lineno}")

    def test_what_stands_behind_stars_in_calls(self):
        for name, node in nodes(ast.Call):
            for item in beside_stars(node):
                self.assertTrue(is_plain(item), f"{name}: {item.lineno}: {ast.unparse(item)}")

    def test_forms_of_calls_with_stars(self):
        for text in (
            "f(a + 1)", "f(a + 1, *b)", "f(*b, c, d.e, 1, [c, (2, d.e)], {'k': c})", "f(*b, k=c)", "f(a, k=b, **c)",
        ):
            self.assertTrue(all(is_plain(item) for item in beside_stars(ast.parse(text).body[0].value)), text)
        for text in (
            "f(*b, c + 1)", "f(*b, g(c))", "f(*g(b))", "f(*b, c[0])", "f(*b, -1)", "f(*b, c.d.e)", "f(*b, [c + 1])",
            "f(*b, k=c + 1)", "f(a + 1, **b)", "f(**b.c.d)", "f(*b, {**c})", "f(*b, *[*c])",
        ):
            self.assertFalse(all(is_plain(item) for item in beside_stars(ast.parse(text).body[0].value)), text)

    def test_comprehensions_within_one_another_have_their_own_names(self):
        for name, node in nodes(*COMPREHENSIONS):
            for inner in ast.walk(node):
                if inner is not node and isinstance(inner, COMPREHENSIONS):
                    self.assertEqual(targets_of(node) & targets_of(inner), set(), f"{name}: {node.lineno}")

    def test_errors_that_are_caught_are_own_ones(self):
        own = {node.name for name, node in nodes(ast.ClassDef) if name == "errors.py"}
        for name, node in nodes(ast.ExceptHandler):
            self.assertIn(node.type.id, own, name)


if __name__ == "__main__":
    unittest.main()
