"""The rules of LANGUAGE.md that can be seen in the files, as far as the package touches on them."""

import ast
import builtins
import re
import unittest
from pathlib import Path

FOLDER = Path(__file__).resolve().parent.parent / "dialsums"

LIBRARY = {
    "math": "gcd lcm isqrt comb perm factorial".split(),
    "itertools": "product combinations permutations".split(),
}

BUILTINS = set(
    "len range enumerate zip min max sum abs sorted reversed int str bool list tuple dict set isinstance ord repr any "
    "all divmod ValueError TypeError KeyError IndexError NotImplemented property staticmethod".split()
)

METHODS = set(
    "append clear copy count endswith extend find get index insert isalnum isalpha isdigit islower isspace isupper items "
    "join keys ljust lower lstrip partition pop remove replace reverse rfind rjust rpartition rsplit rstrip setdefault "
    "split splitlines startswith strip update upper values zfill bit_length isascii removeprefix removesuffix".split()
)

WORDS = set(
    "type typing enum Enum Generic Protocol ABC dataclass overload namedtuple abstractmethod contextmanager Meta".split()
)

FORBIDDEN = (
    ast.Global, ast.AsyncFunctionDef, ast.Await, ast.Import, ast.GeneratorExp, ast.Div, ast.Set, ast.SetComp,
)


def files():
    """The files of the package, each with its text and its tree."""
    return [(path, path.read_text(), ast.parse(path.read_text())) for path in sorted(FOLDER.glob("*.py"))]


def nodes(kind):
    """All nodes of this kind, each with its file."""
    return [(path.name, node) for path, _, tree in files() for node in ast.walk(tree) if isinstance(node, kind)]


def defined(tree):
    """The names that a file binds itself."""
    found = [node.name for node in tree.body if isinstance(node, (ast.ClassDef, ast.FunctionDef))]
    for node in tree.body:
        if isinstance(node, ast.Assign):
            found.append(node.targets[0].id)
    return found


def is_plain(node):
    """Whether this is plainly a number or a string: by int(..), str(..) or len(..)."""
    if isinstance(node, ast.ListComp):
        return is_plain(node.elt)
    return isinstance(node, ast.Call) and isinstance(node.func, ast.Name) and node.func.id in ("int", "str", "len")


class Files(unittest.TestCase):
    def test_nothing_else_stands_in_the_folder(self):
        names = sorted(path.name for path in FOLDER.iterdir() if path.name != "__pycache__")
        self.assertEqual(names, [path.name for path, _, _ in files()])
        self.assertIn("__init__.py", names)
        for name in names:
            self.assertRegex(name, "^[a-z0-9_]+[.]py$")

    def test_characters_and_lengths(self):
        for path, text, _ in files():
            self.assertRegex(text, "^[ -~\n]*$", path)
            lines = text.split("\n")
            self.assertLessEqual(len(lines), 400, path)
            for line in lines:
                self.assertLessEqual(len(line), 120, (path, line))

    def test_functions_are_short(self):
        for name, node in nodes(ast.FunctionDef):
            self.assertLessEqual(node.end_lineno - node.lineno + 1, 40, (name, node.name))

    def test_words_that_do_not_occur(self):
        for path, text, _ in files():
            self.assertEqual(WORDS & set(re.findall("[A-Za-z_]+", text)), set(), path)

    def test_strings(self):
        for name, node in nodes(ast.Constant):
            if isinstance(node.value, str):
                self.assertNotIn("%", node.value, name)
                self.assertNotIn("__", node.value, name)
            self.assertNotIsInstance(node.value, (float, complex, bytes), name)


class Statements(unittest.TestCase):
    def test_imports(self):
        own = {path.stem: defined(tree) for path, _, tree in files()}
        for name, node in nodes(ast.ImportFrom):
            for alias in node.names:
                self.assertIsNone(alias.asname, name)
                if node.module in LIBRARY:
                    self.assertIn(alias.name, LIBRARY[node.module], name)
                else:
                    package, file = node.module.split(".")
                    self.assertEqual(package, "dialsums", name)
                    self.assertIn(alias.name, own[file], name)

    def test_what_is_not_allowed(self):
        self.assertEqual(nodes(FORBIDDEN), [])

    def test_powers_stand_at_module_level_alone(self):
        for name, function in nodes(ast.FunctionDef):
            self.assertFalse([node for node in ast.walk(function) if isinstance(node, ast.Pow)], (name, function.name))

    def test_additions_in_place_are_of_literal_integers(self):
        for name, node in nodes(ast.AugAssign):
            self.assertIsInstance(node.value, ast.Constant, (name, node.lineno))
            self.assertIsInstance(node.value.value, int, (name, node.lineno))

    def test_decorators(self):
        for name, node in nodes((ast.FunctionDef, ast.ClassDef)):
            for decorator in node.decorator_list:
                self.assertIn(decorator.id, ("property", "staticmethod"), (name, node.name))

    def test_names_of_imports_and_classes_mean_nothing_else(self):
        for path, _, tree in files():
            barred = {node.name for node in tree.body if isinstance(node, ast.ClassDef)}
            for node in tree.body:
                if isinstance(node, ast.ImportFrom):
                    barred.update(alias.name for alias in node.names)
            bound = [node.arg for node in ast.walk(tree) if isinstance(node, ast.arg)]
            bound += [node.id for node in ast.walk(tree) if isinstance(node, ast.Name) and isinstance(node.ctx, ast.Store)]
            bound += [node.name for node in ast.walk(tree) if isinstance(node, ast.FunctionDef)]
            self.assertEqual(barred & set(bound), set(), path)

    def test_no_two_files_import_from_each_other(self):
        needs = {}
        for path, _, tree in files():
            modules = [node.module for node in tree.body if isinstance(node, ast.ImportFrom)]
            needs[path.stem] = [module.split(".")[1] for module in modules if module.startswith("dialsums.")]
        done = []
        while len(done) < len(needs):
            ready = [name for name in needs if name not in done and all(need in done for need in needs[name])]
            self.assertNotEqual(ready, [], needs)
            done.extend(ready)

    def test_module_level(self):
        for path, _, tree in files():
            names = defined(tree)
            self.assertEqual(len(names), len(set(names)), path)
            for node in tree.body:
                self.assertIsInstance(node, (ast.Expr, ast.ImportFrom, ast.ClassDef, ast.FunctionDef, ast.Assign), path)


class Calls(unittest.TestCase):
    def test_builtins(self):
        for name, node in nodes(ast.Name):
            # Tests of examples leave a builtin _ behind.
            if hasattr(builtins, node.id) and node.id != "_":
                self.assertIn(node.id, BUILTINS, name)
                self.assertIsInstance(node.ctx, ast.Load, (name, node.id))

    def test_methods_of_builtin_values(self):
        known = set()
        for value in (1, "", [], {}, (), set(), b""):
            known.update(dir(value))
        for name, node in nodes(ast.Attribute):
            if node.attr in known:
                self.assertIn(node.attr, METHODS, (name, node.lineno))

    def test_what_is_sorted_is_plainly_numbers_or_strings(self):
        for name, node in nodes(ast.Call):
            if isinstance(node.func, ast.Name) and node.func.id in ("sorted", "min", "max"):
                self.assertTrue([one for one in node.args if is_plain(one)], (name, node.lineno))


if __name__ == "__main__":
    unittest.main()
