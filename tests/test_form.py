"""The form of the package: its files, their size and signs, what they import and use, where the interface is."""

import ast
import builtins
import unittest
from pathlib import Path

PACKAGE = Path(__file__).resolve().parent.parent / "deedshares"
BUILTINS = set("""len range enumerate zip min max sum abs sorted reversed int str bool bytes list tuple dict set frozenset
    isinstance ord repr any all divmod pow getattr hasattr setattr iter next map property staticmethod classmethod super
    Exception ValueError TypeError KeyError IndexError LookupError ZeroDivisionError ArithmeticError OverflowError
    RuntimeError NotImplementedError AttributeError StopIteration NotImplemented""".split())
LIBRARY = {"heapq": {"heappush", "heappop", "heapify", "heapreplace", "heappushpop"},
           "math": {"gcd", "lcm", "isqrt", "comb", "perm", "factorial"},
           "itertools": {"product", "combinations", "permutations", "chain", "accumulate", "pairwise", "islice",
                         "zip_longest"},
           "collections": {"defaultdict", "deque"}}
INTERFACE = {
    "errors": {"DeedError": ["__init__"], "InvalidName": [], "InvalidArrow": [], "InvalidPair": [],
               "InvalidNumber": [], "InvalidWeights": [], "InvalidDeed": [], "NotTold": [], "NothingToUndo": [],
               "TooMany": [], "Unreadable": []},
    "diagrams": {"Diagram": ["__init__", "__eq__", "names", "arrows", "pairs", "sources", "leading_to"]},
    "barred": {"barred": ["diagram", "ones", "others", "given"], "open_way": ["diagram", "one", "other", "given"]},
    "told": {"groups": ["diagram"], "steps": ["diagram", "acted", "asked"], "is_told": ["diagram", "acted", "asked"],
             "stuck": ["diagram", "acted", "asked"], "told_pairs": ["diagram"]},
    "worlds": {"World": ["__init__", "__eq__", "diagram", "coins", "tables"], "watched": ["world"],
               "done": ["world", "deeds", "asked"], "two_worlds": ["diagram", "acted", "asked"]},
    "effects": {"share_of": ["diagram", "weights", "event"], "shares_after": ["diagram", "weights", "deeds", "asked"],
                "shares_given": ["diagram", "weights", "deeds", "asked", "given"]},
    "cures": {"cures": ["diagram", "acted", "asked"], "is_cure": ["diagram", "acted", "asked", "indices"]},
    "adjusting": {"adjusts": ["diagram", "acted", "asked", "through"],
                  "least_adjusting": ["diagram", "acted", "asked"],
                  "adjusted": ["diagram", "weights", "deeds", "asked", "through"]},
    "sheets": {"Sheet": ["__init__", "__len__", "__eq__", "diagram", "draw", "hide", "rub", "undo", "tells", "story"],
               "SmallSheet": ["__init__", "draw", "hide"]},
    "texts": {"show_diagram": ["diagram"]},
    "readings": {"read_diagram": ["text"]},
}
UNUSED = set("""mro elements open input law version_info with_traceback add_note register type typing enum Enum Flag Generic
    Protocol ABC breakpoint builtins compile delattr dir eval exec exit gc globals help importlib locals os sys vars
    __name__ __class__""".split())


def files():
    return sorted(path for path in PACKAGE.rglob("*") if path.is_file() and "__pycache__" not in path.parts)


def tree_of(path):
    return ast.parse(path.read_text(encoding="utf-8"))


def imported_by(path):
    """The stems of the files of the package from which one imports."""
    return {node.module.split(".")[-1] for node in ast.walk(tree_of(path))
            if isinstance(node, ast.ImportFrom) and node.module.startswith(PACKAGE.name)}


def nodes(kind):
    return [(path.name, node) for path in files() for node in ast.walk(tree_of(path)) if isinstance(node, kind)]


class FilesTest(unittest.TestCase):

    def test_only_python_files(self):
        self.assertIn("__init__.py", [path.name for path in files()])
        for path in files():
            self.assertRegex(path.name, r"\A([a-z][a-z0-9_]*|__init__)\.py\Z")
            self.assertNotRegex(path.name, r"\Atest")

    def test_size_and_signs(self):
        for path in files():
            text = path.read_bytes().decode("ascii")
            self.assertEqual([sign for sign in text if sign != "\n" and not " " <= sign <= "~"], [], path.name)
            self.assertLessEqual(len(text.splitlines()), 399, path.name)
            self.assertLessEqual(max(map(len, text.splitlines())), 120, path.name)

    def test_size_of_functions(self):
        for name, node in nodes(ast.FunctionDef):
            self.assertLessEqual(node.end_lineno - node.lineno + 1, 40, (name, node.name))


class UsesTest(unittest.TestCase):

    def test_imports(self):
        self.assertEqual(nodes(ast.Import), [])
        for name, node in nodes(ast.ImportFrom):
            known = (PACKAGE.parent / (node.module.replace(".", "/") + ".py")).is_file()
            for alias in node.names:
                told = (name, node.module, alias.name)
                self.assertTrue(known or alias.name in LIBRARY.get(node.module, ()), told)
                self.assertIsNone(alias.asname, told)
                self.assertNotEqual(alias.name, "*", told)

    def test_builtins(self):
        for name, node in nodes(ast.Name):
            if hasattr(builtins, node.id):
                self.assertIn(node.id, BUILTINS, name)
                self.assertIsInstance(node.ctx, ast.Load, (name, node.id))

    def test_imports_are_without_ring(self):
        left = {path.stem: imported_by(path) for path in files()}
        while any(not imports & set(left) for imports in left.values()):
            left = {stem: imports for stem, imports in left.items() if imports & set(left)}
        self.assertEqual(left, {})

    def test_each_name_means_one_thing_in_its_file(self):
        for path in files():
            tree = tree_of(path)
            outer = [alias.name for node in tree.body if isinstance(node, ast.ImportFrom) for alias in node.names]
            outer += [node.name for node in tree.body if isinstance(node, (ast.FunctionDef, ast.ClassDef))]
            self.assertEqual(len(set(outer)), len(outer), path.name)
            for node in ast.walk(tree):
                if isinstance(node, ast.arg):
                    self.assertNotIn(node.arg, outer + dir(builtins), path.name)
                if isinstance(node, ast.Name) and isinstance(node.ctx, ast.Store):
                    self.assertNotIn(node.id, outer, path.name)

    def test_plain_names(self):
        for name, node in nodes((ast.Name, ast.Attribute, ast.arg, ast.FunctionDef, ast.ClassDef, ast.keyword)):
            for word in (getattr(node, kind, None) for kind in ("id", "attr", "arg", "name")):
                if word is not None:
                    self.assertRegex(word, r"\A(_|_?[A-Za-z][A-Za-z0-9_]*|__init__|__eq__|__len__)\Z", name)
                    self.assertNotIn(word, UNUSED, name)

    def test_lists_where_sums_and_their_like_could_take_a_generator(self):
        self.assertEqual(nodes((ast.GeneratorExp, ast.Yield, ast.YieldFrom)), [])

    def test_sorted_and_powers(self):
        self.assertEqual(nodes(ast.Pow), [])
        for name, node in nodes(ast.Call):
            self.assertNotEqual(getattr(node.func, "attr", ""), "sort", name)

    def test_numbers_are_whole(self):
        self.assertEqual(nodes(ast.Div), [])
        for name, node in nodes(ast.Constant):
            self.assertNotIsInstance(node.value, (float, complex), name)

    def test_no_decorator_but_those_of_methods(self):
        for name, node in nodes((ast.FunctionDef, ast.ClassDef)):
            for decorator in node.decorator_list:
                self.assertRegex(ast.unparse(decorator), r"\A(property|\w+\.setter|staticmethod|classmethod)\Z", name)


class InterfaceTest(unittest.TestCase):

    def test_each_is_defined_in_its_file(self):
        for name, listed in INTERFACE.items():
            body = {node.name: node for node in tree_of(PACKAGE / f"{name}.py").body if hasattr(node, "name")}
            for word, within in listed.items():
                self.assertIn(word, body, name)
                if isinstance(body[word], ast.ClassDef):
                    methods = [node.name for node in body[word].body if isinstance(node, ast.FunctionDef)]
                    self.assertLessEqual(set(within), set(methods), word)
                else:
                    self.assertEqual([arg.arg for arg in body[word].args.args], within, word)
