"""What of the language rules a program can see: files, characters, sizes, imports, names, kinds of code."""
import ast
import builtins
import unittest
from pathlib import Path

PACKAGE = Path(__file__).resolve().parent.parent / "sparecells"
FILES = sorted(PACKAGE.glob("**/*.py"))
LIBRARY = {
    "heapq": {"heappush", "heappop", "heapify", "heapreplace", "heappushpop"},
    "math": {"gcd", "lcm", "isqrt", "comb", "perm", "factorial"},
    "itertools": {"product", "combinations", "permutations", "chain", "accumulate", "pairwise", "islice",
                  "zip_longest"},
    "collections": {"defaultdict"},
}
BUILTINS = set(
    "len range enumerate zip min max sum abs sorted reversed int str bool list tuple dict set isinstance ord repr any "
    "all divmod ValueError TypeError KeyError NotImplemented".split())
# Narrower than the rules where the package does without.
FORBIDDEN = (
    ast.Global, ast.AsyncFunctionDef, ast.Await, ast.AsyncFor, ast.AsyncWith, ast.GeneratorExp, ast.Div, ast.MatMult,
    ast.Import)
METHODS = ("__init__", "__eq__", "__repr__", "__str__", "__len__", "__enter__", "__exit__")
BARRED = set("register mro elements open input law version_info type typing enum namedtuple dataclass".split())


def trees():
    return {path.stem: ast.parse(path.read_text()) for path in FILES}


def bound_names(tree):
    """All names that a file gives a meaning, but for attributes and methods."""
    for node in ast.walk(tree):
        if isinstance(node, ast.Name) and not isinstance(node.ctx, ast.Load):
            yield node.id
        elif isinstance(node, ast.arg):
            yield node.arg
        elif isinstance(node, ast.alias):
            yield node.asname or node.name
    for node in tree.body:
        if isinstance(node, (ast.FunctionDef, ast.ClassDef)):
            yield node.name


def names_on_top(tree):
    """The classes, functions and imports of a file."""
    names = []
    for node in tree.body:
        if isinstance(node, (ast.FunctionDef, ast.ClassDef)):
            names.append(node.name)
        elif isinstance(node, ast.ImportFrom):
            names.extend(alias.name for alias in node.names)
    return names


class FilesTest(unittest.TestCase):
    def test_the_folder_contains_nothing_else(self):
        found = [path for path in PACKAGE.iterdir() if path.name != "__pycache__"]
        self.assertEqual(sorted(found), FILES)
        self.assertIn(PACKAGE / "__init__.py", FILES)

    def test_characters_and_sizes(self):
        for path in FILES:
            text = path.read_text()
            self.assertTrue(all(sign == "\n" or " " <= sign <= "~" for sign in text), path)
            self.assertLessEqual(len(text.split("\n")), 400, path)
            self.assertLessEqual(max(len(line) for line in text.split("\n")), 120, path)
            for node in ast.walk(ast.parse(text)):
                if isinstance(node, ast.FunctionDef):
                    self.assertLessEqual(node.end_lineno - node.lineno + 1, 40, (path, node.name))


class ImportsTest(unittest.TestCase):
    def test_each_import_names_the_file_that_defines(self):
        known = trees()
        for stem, tree in known.items():
            for node in ast.walk(tree):
                if isinstance(node, ast.ImportFrom):
                    self.assertIn(node, tree.body, stem)
                    self.check_import(known, stem, node)

    def check_import(self, known, stem, node):
        for alias in node.names:
            if node.module in LIBRARY:
                self.assertIn(alias.name, LIBRARY[node.module], stem)
            else:
                package, module = node.module.split(".")
                self.assertEqual((package, node.level), ("sparecells", 0), stem)
                parts = [part for part in known[module].body if isinstance(part, (ast.FunctionDef, ast.ClassDef))]
                defined = [part.name for part in parts]
                self.assertIn(alias.name, defined, stem)

    def test_no_two_files_import_from_each_other(self):
        left = {}
        for stem, tree in trees().items():
            heads = [node.module for node in tree.body if isinstance(node, ast.ImportFrom)]
            left[stem] = {head.split(".")[1] for head in heads if head.startswith("sparecells.")}
        while left:
            free = [stem for stem in left if not left[stem] & set(left)]
            self.assertTrue(free, f"these import from one another: {sorted(left)}")
            for stem in free:
                del left[stem]


class CodeTest(unittest.TestCase):
    def test_kinds_of_code(self):
        for stem, tree in trees().items():
            for node in ast.walk(tree):
                self.assertNotIsInstance(node, FORBIDDEN, stem)
                if isinstance(node, ast.Constant):
                    self.assertNotIsInstance(node.value, (float, complex), stem)
                    self.assertNotIn("%", str(node.value), stem)
                if isinstance(node, ast.FunctionDef):
                    self.assertEqual(node.decorator_list, [], stem)
                    self.assertTrue(not node.name.startswith("__") or node.name in METHODS, stem)

    def test_only_the_builtins_of_the_rules_are_used(self):
        for stem, tree in trees().items():
            for node in ast.walk(tree):
                if isinstance(node, ast.Name) and hasattr(builtins, node.id):
                    self.assertIn(node.id, BUILTINS, stem)

    def test_no_name_has_two_meanings(self):
        for stem, tree in trees().items():
            on_top = names_on_top(tree)
            self.assertEqual(len(on_top), len(set(on_top)), stem)
            local = {node.arg for node in ast.walk(tree) if isinstance(node, ast.arg)}
            names = [node for node in ast.walk(tree) if isinstance(node, ast.Name)]
            local |= {node.id for node in names if isinstance(node.ctx, ast.Store)}
            self.assertEqual(local & set(on_top), set(), stem)
            for name in bound_names(tree):
                self.assertFalse(hasattr(builtins, name), (stem, name))
                self.assertNotIn(name, BARRED, stem)
