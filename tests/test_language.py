"""The package keeps to those rules of the language that a walk over its files can see."""

import ast
import builtins
import pathlib
import re

from helping import Case

PACKAGE = pathlib.Path(__file__).resolve().parent.parent / "foreknown"

OWN_NAMES = set("""len range enumerate zip min max sum abs sorted reversed int str bool list tuple dict set frozenset
    isinstance ord repr any all divmod Exception ValueError TypeError KeyError IndexError LookupError
    ZeroDivisionError ArithmeticError OverflowError RuntimeError NotImplementedError AttributeError
    StopIteration""".split())

OWN_METHODS = set("""append clear copy count endswith extend find get index insert isalnum isalpha isdigit islower
    isspace isupper items join keys ljust lower lstrip partition pop remove replace reverse rfind rjust rpartition
    rsplit rstrip setdefault split splitlines startswith strip update upper values zfill bit_length""".split())

NO_WORDS = set("""type typing typing_extensions enum Enum IntEnum StrEnum Flag IntFlag Generic Protocol ABC ABCMeta
    namedtuple NamedTuple TypedDict TYPE_CHECKING abstractmethod""".split())

NO_PIECES = ("dataclass", "overload", "contextmanager")

NO_NODES = (ast.With, ast.Match, ast.Delete, ast.Global, ast.Nonlocal, ast.Assert, ast.Yield, ast.YieldFrom,
            ast.AsyncFunctionDef, ast.AsyncFor, ast.AsyncWith, ast.Await, ast.Import, ast.SetComp, ast.DictComp,
            ast.GeneratorExp, ast.NamedExpr, ast.Starred, ast.Div, ast.AnnAssign, ast.MatMult)

TOP_NODES = (ast.ImportFrom, ast.FunctionDef, ast.ClassDef, ast.Assign)


class LanguageTest(Case):
    def files(self):
        for path in sorted(PACKAGE.glob("*.py")):
            text = path.read_text(encoding="utf-8")
            yield path, text, ast.parse(text)

    def nodes(self):
        for path, _, tree in self.files():
            for node in ast.walk(tree):
                yield f"{path.name}:{getattr(node, 'lineno', 0)}", node

    def test_only_plainly_named_files_lie_in_the_package(self):
        for path in PACKAGE.iterdir():
            if path.name != "__pycache__":
                self.assertTrue(path.is_file(), path)
                self.assertRegex(path.name, r"\A(__init__|__main__|[a-z][a-z0-9_]*)\.py\Z")
                self.assertNotIn(path.stem, dir(builtins))

    def test_sizes_and_signs(self):
        for path, text, _ in self.files():
            lines = text.split("\n")
            self.assertLessEqual(len(lines), 401, path.name)
            for k, line in enumerate(lines, 1):
                self.assertLessEqual(len(line), 120, f"{path.name}:{k}")
                self.assertRegex(line, r"\A[ -~]*\Z", f"{path.name}:{k}")

    def test_functions_are_short(self):
        for place, node in self.nodes():
            if isinstance(node, ast.FunctionDef):
                self.assertLessEqual(node.end_lineno - node.lineno + 1, 40, place)

    def test_words_that_stand_nowhere(self):
        for path, text, _ in self.files():
            self.assertEqual(set(re.findall(r"\w+", text)) & NO_WORDS, set(), path.name)
            for piece in NO_PIECES:
                self.assertNotIn(piece, text, path.name)

    def test_imports_are_the_package_s_own_and_in_no_ring(self):
        draws = {}
        for path, _, tree in self.files():
            draws[path.stem] = []
            for node in ast.walk(tree):
                if isinstance(node, ast.ImportFrom) and node.module != "__future__":
                    self.assertEqual(node.level, 0, path.name)
                    self.assertRegex(node.module, r"\Aforeknown\.[a-z][a-z0-9_]*\Z", path.name)
                    self.assertTrue((PACKAGE / (node.module.partition(".")[2] + ".py")).is_file(), node.module)
                    self.assertNotIn("*", [alias.name for alias in node.names], path.name)
                    draws[path.stem] += [node.module.partition(".")[2], "__init__"]
        while draws:
            free = [name for name in draws if not set(draws[name]) & set(draws)]
            self.assertTrue(free, f"a ring of imports among {sorted(draws)}")
            draws = {name: draws[name] for name in draws if name not in free}

    def test_nothing_is_done_at_a_file_s_top(self):
        for path, _, tree in self.files():
            if path.name != "__main__.py":
                body = tree.body[1:] if ast.get_docstring(tree) is not None else tree.body
                for node in body:
                    self.assertIsInstance(node, TOP_NODES, f"{path.name}:{node.lineno}")

    def test_statements_and_expressions(self):
        for place, node in self.nodes():
            self.assertNotIsInstance(node, NO_NODES, place)
            if isinstance(node, (ast.For, ast.While)):
                self.assertEqual(node.orelse, [], place)
            if isinstance(node, ast.Try):
                self.assertEqual(node.finalbody, [], place)
            if isinstance(node, ast.ExceptHandler):
                self.assertIsNotNone(node.type, place)
            if isinstance(node, ast.Assign):
                self.assertEqual(len(node.targets), 1, place)
            if isinstance(node, ast.comprehension):
                self.assertLessEqual(len(node.ifs), 1, place)
            if isinstance(node, ast.ListComp):
                self.assertEqual(len(node.generators), 1, place)
            if isinstance(node, ast.Constant):
                self.assertIsInstance(node.value, (int, str, bool, type(None)), place)
                self.assertNotIn("%", str(node.value), place)

    def test_functions_and_classes_are_plain(self):
        for place, node in self.nodes():
            if isinstance(node, (ast.FunctionDef, ast.ClassDef)):
                self.assertEqual(node.decorator_list, [], place)
            if isinstance(node, ast.ClassDef):
                self.assertLessEqual(len(node.bases), 1, place)
                self.assertEqual(node.keywords, [], place)
            if isinstance(node, ast.arguments):
                self.assertEqual((node.vararg, node.kwarg, node.kwonlyargs, node.posonlyargs), (None, None, [], []))
            if isinstance(node, ast.arg):
                self.assertFalse(hasattr(builtins, node.arg), place)

    def test_is_stands_beside_none_and_truths_alone(self):
        for place, node in self.nodes():
            if isinstance(node, ast.Compare) and isinstance(node.ops[0], (ast.Is, ast.IsNot)):
                right = node.comparators[0]
                self.assertIsInstance(right, ast.Constant, place)
                self.assertIn(right.value, (None, True, False), place)

    def test_names(self):
        for place, node in self.nodes():
            if isinstance(node, ast.Name) and hasattr(builtins, node.id):
                self.assertIn(node.id, OWN_NAMES, place)
                self.assertIsInstance(node.ctx, ast.Load, place)
            if isinstance(node, ast.Name):
                self.assertFalse(node.id.startswith("_"), place)

    def test_nothing_local_is_called_like_an_import_or_a_class(self):
        for path, _, tree in self.files():
            taken = {node.name for node in tree.body if isinstance(node, ast.ClassDef)}
            for node in ast.walk(tree):
                if isinstance(node, ast.ImportFrom):
                    taken |= {alias.asname or alias.name for alias in node.names}
            for node in ast.walk(tree):
                if isinstance(node, ast.arg):
                    self.assertNotIn(node.arg, taken, path.name)
                if isinstance(node, ast.Name) and isinstance(node.ctx, ast.Store):
                    self.assertNotIn(node.id, taken, path.name)

    def test_methods_are_own_or_allowed_ones(self):
        own = set()
        given = set()
        for _, node in self.nodes():
            if isinstance(node, ast.ClassDef):
                own |= {part.name for part in node.body if isinstance(part, ast.FunctionDef)}
            if isinstance(node, ast.Attribute) and isinstance(node.ctx, ast.Store):
                given.add(node.attr)
        self.assertEqual(own & given, set())
        for place, node in self.nodes():
            if isinstance(node, ast.Call) and isinstance(node.func, ast.Attribute):
                self.assertIn(node.func.attr, own | OWN_METHODS, place)
