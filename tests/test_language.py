"""The rules of the language that can be seen file by file; the names are those of the rules."""

import ast
import builtins
import pathlib
import re
import unittest

PACKAGE = pathlib.Path(__file__).resolve().parent.parent / "layoutsets"
FILES = sorted(path for path in PACKAGE.rglob("*") if path.is_file() and "__pycache__" not in path.parts)
BUILTINS = set("""
    len range enumerate zip min max sum abs sorted reversed int str bool bytes list tuple dict set frozenset isinstance
    ord repr any all divmod pow getattr hasattr setattr iter next map Exception ValueError TypeError KeyError IndexError
    LookupError ZeroDivisionError ArithmeticError OverflowError RuntimeError NotImplementedError AttributeError
    StopIteration NotImplemented super property staticmethod classmethod
""".split())
METHODS = set("""
    append clear copy count endswith extend find get index insert isalnum isalpha isdigit islower isspace isupper items
    join keys ljust lower lstrip partition pop remove replace reverse rfind rjust rpartition rsplit rstrip setdefault
    split splitlines startswith strip update upper values zfill bit_length add discard sort
""".split())
LIBRARY = {
    "heapq": {"heappush", "heappop", "heapify", "heapreplace", "heappushpop"},
    "math": {"gcd", "lcm", "isqrt", "comb", "perm", "factorial"},
    "itertools": {"product", "combinations", "permutations", "chain", "accumulate", "pairwise", "islice", "zip_longest"},
    "collections": {"defaultdict"},
}
DUNDERS = set("""
    init eq repr str len enter exit call iter lt le gt ge ne add sub mul floordiv mod pow and or xor lshift rshift
    radd rsub rmul rfloordiv rmod rand ror rxor rlshift rrshift iadd isub imul ifloordiv imod ipow iand ior ixor
    ilshift irshift neg pos invert abs bool contains getitem setitem
""".split())
STATEMENTS = (
    ast.Assign, ast.AugAssign, ast.AnnAssign, ast.If, ast.While, ast.For, ast.Return, ast.Break, ast.Continue, ast.Pass,
    ast.Raise, ast.Assert, ast.Delete, ast.Nonlocal, ast.Match, ast.With, ast.Try, ast.Expr, ast.FunctionDef,
    ast.ClassDef, ast.ImportFrom,
)
AT_MODULE_LEVEL = (ast.Expr, ast.ImportFrom, ast.FunctionDef, ast.ClassDef, ast.Assign)
BARRED = re.compile(r"\b(typing|typing_extensions|enum|Enum|IntEnum|StrEnum|Flag|IntFlag|Generic|Protocol|ABC|ABCMeta"
                    r"|namedtuple|NamedTuple|TypedDict|TYPE_CHECKING|abstractmethod|type|_wall|_WallAttr)\b"
                    r"|dataclass|overload|contextmanager|metaclass|Meta")


class LanguageTest(unittest.TestCase):
    def setUp(self):
        self.sources = {path: path.read_text("utf-8") for path in FILES}
        self.trees = {path: ast.parse(source) for path, source in self.sources.items()}

    def nodes(self, *kinds):
        """All nodes of these kinds, with where they stand."""
        for path, tree in self.trees.items():
            for node in ast.walk(tree):
                if isinstance(node, kinds):
                    yield f"{path.name}:{getattr(node, 'lineno', 0)}", node

    def test_l1_l14_files(self):
        self.assertIn("__init__.py", [path.name for path in FILES])
        for path in FILES:
            self.assertRegex(path.name, r"^[a-z_][a-z0-9_]*\.py$")
            self.assertNotRegex(path.name, r"^(law_|test|site\.|conftest|sitecustomize|usercustomize)")
            self.assertNotIn(path.stem, set(dir(builtins)))

    def test_l2_l16_imports(self):
        for place, node in self.nodes(ast.Import, ast.ImportFrom):
            self.assertIsInstance(node, ast.ImportFrom, place)
            self.assertEqual(node.level, 0, place)
            self.assertEqual([name.asname for name in node.names if name.asname], [], place)
            if node.module in LIBRARY:
                self.assertLessEqual({name.name for name in node.names}, LIBRARY[node.module], place)
                continue
            top, file = node.module.split(".")
            self.assertEqual(top, "layoutsets", place)
            defined = [own.name for own in self.trees[PACKAGE / f"{file}.py"].body
                       if isinstance(own, (ast.FunctionDef, ast.ClassDef))]
            defined += [name.id for own in self.trees[PACKAGE / f"{file}.py"].body if isinstance(own, ast.Assign)
                        for name in own.targets]
            self.assertLessEqual({name.name for name in node.names}, set(defined), place)

    def test_l2_no_ring_of_imports(self):
        uses = {path.stem: {node.module.split(".")[-1] for node in ast.walk(tree) if isinstance(node, ast.ImportFrom)}
                for path, tree in self.trees.items()}
        free = {name for name in uses if not uses[name] & set(uses)}
        while len(free) < len(uses):
            more = {name for name in uses if uses[name] & set(uses) <= free} - free
            self.assertTrue(more, set(uses) - free)
            free |= more

    def test_l3_module_level(self):
        for path, tree in self.trees.items():
            for node in tree.body:
                self.assertIsInstance(node, AT_MODULE_LEVEL, (path.name, node.lineno))
                if isinstance(node, ast.Expr):
                    self.assertIsInstance(node.value, ast.Constant, (path.name, node.lineno))

    def test_l4_l5_functions_and_classes(self):
        for place, node in self.nodes(ast.FunctionDef):
            for decorator in node.decorator_list:
                told = ast.unparse(decorator)
                self.assertTrue(told in ("property", "staticmethod", "classmethod") or told.endswith(".setter"), place)
            if node.name.startswith("__"):
                self.assertIn(node.name.strip("_"), DUNDERS, place)
        for place, node in self.nodes(ast.ClassDef):
            self.assertEqual(node.decorator_list, [], place)

    def test_l5_classes_with_items(self):
        for place, node in self.nodes(ast.ClassDef):
            own = {method.name: method for method in node.body if isinstance(method, ast.FunctionDef)}
            if "__getitem__" in own:
                self.assertIn("__iter__", own, place)
                self.assertEqual([step.__class__ for step in own["__iter__"].body], [ast.Raise], place)
            for name in {"__and__", "__or__", "__sub__", "__add__", "__eq__", "__contains__", "__getitem__"} & set(own):
                self.assertEqual(len(own[name].args.args), 2, place)

    def test_l6_statements(self):
        for place, node in self.nodes(ast.stmt):
            self.assertIsInstance(node, STATEMENTS, place)

    def test_l7_values(self):
        for place, node in self.nodes(ast.Constant):
            self.assertNotIsInstance(node.value, (float, complex), place)
            if isinstance(node.value, str):
                self.assertNotIn("%", node.value, place)
        for place, node in self.nodes(ast.Div, ast.MatMult, ast.Await):
            self.fail(place)
        for place, node in self.nodes(ast.Call):
            if isinstance(node.func, ast.Name) and node.func.id in ("any", "all", "min", "max", "sum", "sorted"):
                self.assertFalse([part for part in node.args if isinstance(part, ast.GeneratorExp)], place)

    def test_l7_stars(self):
        plain = (ast.Name, ast.Constant, ast.List, ast.Tuple, ast.Dict)
        for place, node in self.nodes(ast.Call):
            beside = [part for part in node.args if not isinstance(part, ast.Starred)]
            named = [word for word in node.keywords if word.arg is None]
            starred = [part.value for part in node.args if isinstance(part, ast.Starred)]
            if named:
                self.assertEqual(len(node.keywords), 1, place)
            if named or starred:
                for part in (*beside, *starred, *[word.value for word in node.keywords]):
                    off_a_name = isinstance(part, ast.Attribute) and isinstance(part.value, ast.Name)
                    self.assertTrue(off_a_name or isinstance(part, plain), place)

    def test_l8_l15_names(self):
        for place, node in self.nodes(ast.Name):
            if hasattr(builtins, node.id):
                self.assertIn(node.id, BUILTINS, place)
                self.assertIsInstance(node.ctx, ast.Load, place)
        for path, tree in self.trees.items():
            taken = {name.name for node in tree.body if isinstance(node, ast.ImportFrom) for name in node.names}
            taken |= {node.name for node in tree.body if isinstance(node, ast.ClassDef)} | set(dir(builtins))
            inside = [node.arg for node in ast.walk(tree) if isinstance(node, ast.arg)]
            inside += [node.id for node in ast.walk(tree) if isinstance(node, ast.Name)
                       and isinstance(node.ctx, ast.Store)]
            self.assertEqual(taken & set(inside), set(), path.name)

    def test_l10_l14_size_and_characters(self):
        for path, source in self.sources.items():
            rows = source.split("\n")
            self.assertLessEqual(len(rows), 400, path.name)
            self.assertRegex(source, r"\A[ -~\n]*\Z", path.name)
            self.assertLessEqual(max(len(row) for row in rows), 120, path.name)
        for place, node in self.nodes(ast.FunctionDef):
            self.assertLessEqual(node.end_lineno - node.lineno + 1, 40, place)

    def test_l17_words(self):
        for path, source in self.sources.items():
            self.assertIsNone(BARRED.search(source), path.name)

    def test_l18_l26_attributes(self):
        methods, assigned = set(), set()
        for place, node in self.nodes(ast.ClassDef):
            methods |= {own.name for own in node.body if isinstance(own, ast.FunctionDef)}
        for place, node in self.nodes(ast.Attribute):
            if isinstance(node.ctx, ast.Store):
                assigned.add(node.attr)
        plain = [str, int, list, dict, set, bytes, tuple]
        taken = {name for kind in plain for name in dir(kind)} - {"count", "index", "title", "copy", "find", "get"}
        self.assertEqual(assigned & taken, set())
        self.assertEqual(assigned & methods, set())
        for place, node in self.nodes(ast.Attribute):
            self.assertIn(node.attr, METHODS | methods | assigned, place)

    def test_l18_attributes_are_no_properties(self):
        properties = {own.name for _, node in self.nodes(ast.ClassDef) for own in node.body
                      if isinstance(own, ast.FunctionDef) and own.decorator_list}
        for place, node in self.nodes(ast.Attribute):
            if isinstance(node.ctx, ast.Store):
                self.assertNotIn(node.attr, properties, place)

    def test_l20_is(self):
        for place, node in self.nodes(ast.Compare):
            for sign, other in zip(node.ops, node.comparators):
                if isinstance(sign, (ast.Is, ast.IsNot)):
                    self.assertIn(ast.unparse(other), ("None", "True", "False"), place)

    def test_l24_sets(self):
        for place, node in self.nodes(ast.For, ast.comprehension):
            told = ast.unparse(node.iter)
            self.assertFalse(told.startswith("set(") or isinstance(node.iter, (ast.Set, ast.SetComp)), place)


if __name__ == "__main__":
    unittest.main()
