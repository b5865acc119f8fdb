"""Rules of the language subset that can be seen file by file: L1, L2, L6 to L10, L14, L17 and L27."""

import ast
import pathlib
import re
import unittest

ROOT = pathlib.Path(__file__).resolve().parent.parent / "noroadback"
FILES = sorted(path for path in ROOT.rglob("*") if path.is_file() and "__pycache__" not in path.parts)
FOLDERS = [ROOT] + sorted(path for path in ROOT.rglob("*") if path.is_dir() and path.name != "__pycache__")
LIBRARY = {
    "heapq": {"heappush", "heappop", "heapify", "heapreplace", "heappushpop"},
    "math": {"gcd", "lcm", "isqrt", "comb", "perm", "factorial"},
    "collections": {"defaultdict", "deque"},
}
BARRED_WORDS = [
    "register", "mro", "elements", "open", "input", "law", "version_info", "with_traceback", "add_note", "typing", "enum",
    "Enum", "Generic", "Protocol", "ABC", "namedtuple", "NamedTuple", "async", "float", "bytearray",
]
BARRED_NODES = (ast.AsyncFunctionDef, ast.Await, ast.Div, ast.Import)


def trees():
    """Pairs of a file and its syntax tree."""
    return [(path, ast.parse(path.read_text())) for path in FILES]


class Language(unittest.TestCase):
    def test_files_have_plain_names_and_each_folder_an_init(self):
        for path in FILES:
            self.assertRegex(path.name, r"^[a-z0-9_]+\.py$")
        for folder in FOLDERS:
            self.assertTrue((folder / "__init__.py").is_file())
            self.assertFalse((folder.with_suffix(".py")).exists())

    def test_characters_and_sizes(self):
        for path in FILES:
            text = path.read_text()
            self.assertTrue(all(" " <= sign <= "~" or sign == "\n" for sign in text), path)
            self.assertTrue(len(text.splitlines()) <= 399 and max(map(len, text.splitlines())) <= 120, path)

    def test_functions_are_short(self):
        for path, tree in trees():
            for node in ast.walk(tree):
                if isinstance(node, ast.FunctionDef):
                    self.assertLessEqual(node.end_lineno - node.lineno + 1, 40, (path, node.name))

    def test_imports_come_from_the_package_and_few_other_modules(self):
        for path, tree in trees():
            for node in ast.walk(tree):
                if isinstance(node, ast.ImportFrom):
                    names = {alias.name for alias in node.names}
                    self.assertEqual((node.level, [alias.asname for alias in node.names if alias.asname]), (0, []))
                    if node.module in LIBRARY:
                        self.assertLessEqual(names, LIBRARY[node.module])
                    else:
                        self.assert_defined(node.module, names)

    def assert_defined(self, module, names):
        """The names are defined in the very file that they are imported from."""
        path = ROOT.parent / (module.replace(".", "/") + ".py")
        defined = set()
        for node in ast.parse(path.read_text()).body:
            if isinstance(node, (ast.FunctionDef, ast.ClassDef)):
                defined.add(node.name)
            if isinstance(node, ast.Assign):
                defined.update(target.id for target in node.targets)
        self.assertLessEqual(names, defined)

    def test_barred_words_and_constructs(self):
        for path, tree in trees():
            for node in ast.walk(tree):
                self.assertNotIsInstance(node, BARRED_NODES, path)
                if isinstance(node, ast.Constant):
                    self.assertNotIsInstance(node.value, (float, complex), path)
                if isinstance(node, ast.Call) and isinstance(node.func, ast.Name):
                    self.assertNotIn(node.func.id, ("print", "open", "input", "eval", "exec", "chr", "vars"), path)
            for word in BARRED_WORDS:
                code = re.sub(r'""".*?"""|#.*', "", path.read_text(), flags=re.DOTALL)
                self.assertIsNone(re.search(rf"\b{word}\b", code), (path, word))

    def test_strings_hold_no_percent_sign(self):
        for path, tree in trees():
            documented = [ast.get_docstring(node, clean=False) for node in ast.walk(tree)
                          if isinstance(node, (ast.Module, ast.ClassDef, ast.FunctionDef))]
            for node in ast.walk(tree):
                if isinstance(node, ast.Constant) and isinstance(node.value, str) and node.value not in documented:
                    self.assertNotIn("%", node.value, path)
