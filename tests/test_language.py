"""The rules of LANGUAGE.md that can be seen in the files, as far as the package touches on them."""

import ast
import builtins
import re
import unittest
from pathlib import Path

FOLDER = Path(__file__).resolve().parent.parent / "dialsums"

LIBRARY = {
    "math": "gcd lcm isqrt comb perm factorial".split(),
    "itertools": "product combinations permutations".split(),
}

BUILTINS = set(
    "len range enumerate zip min max sum abs sorted reversed int str bool list tuple dict set isinstance ord repr any "
    "all divmod ValueError TypeError KeyError IndexError NotImplemented property staticmethod".split()
)

METHODS = set(
    "append clear copy count endswith extend find get index insert isalnum isalpha isdigit islower isspace isupper items "
    "join keys ljust lower lstrip partition pop remove replace reverse rfind rjust rpartition rsplit rstrip setdefault "
    "split splitlines startswith strip update upper values zfill bit_length isascii removeprefix removesuffix".split()
)

WORDS = set(
    "type typing enum Enum Generic Protocol ABC dataclass overload namedtuple abstractmethod contextmanager Meta".split()
)

# Methods that change a list, a dict or a set.
CHANGING = set("append clear extend insert pop remove reverse setdefault sort update add discard".split())

# What gives a new list, dict or set.
MAKING = ("list", "dict", "set", "sorted")

# These may change what they are given.
FREE = "__init__ __iadd__ __enter__ __exit__ __call__ __iter__".split()

# Expressions and statements that ask something, or can, beside an if.
ASKING = (ast.IfExp, ast.BoolOp, ast.Compare, ast.UnaryOp, ast.While, ast.Assert, ast.Match, ast.ListComp, ast.DictComp)

FORBIDDEN = (
    ast.Global, ast.AsyncFunctionDef, ast.Await, ast.Import, ast.GeneratorExp, ast.Div, ast.Set, ast.SetComp,
)


def files():
    """The files of the package, each with its text and its tree."""
    return [(path, path.read_text(), ast.parse(path.read_text())) for path in sorted(FOLDER.glob("*.py"))]


def nodes(kind):
    """All nodes of this kind, each with its file."""
    return [(path.name, node) for path, _, tree in files() for node in ast.walk(tree) if isinstance(node, kind)]


def defined(tree):
    """The names that a file binds itself."""
    found = [node.name for node in tree.body if isinstance(node, (ast.ClassDef, ast.FunctionDef))]
    for node in tree.body:
        if isinstance(node, ast.Assign):
            found.append(node.targets[0].id)
    return found


def is_plain(node):
    """Whether this is plainly a number or a string: by int(..), str(..) or len(..)."""
    if isinstance(node, ast.ListComp):
        return is_plain(node.elt)
    return isinstance(node, ast.Call) and isinstance(node.func, ast.Name) and node.func.id in ("int", "str", "len")


class Files(unittest.TestCase):
    def test_nothing_else_stands_in_the_folder(self):
        names = sorted(path.name for path in FOLDER.iterdir() if path.name != "__pycache__")
        self.assertEqual(names, [path.name for path, _, _ in files()])
        self.assertIn("__init__.py", names)
        for name in names:
            self.assertRegex(name, "^[a-z0-9_]+[.]py$")

    def test_characters_and_lengths(self):
        for path, text, _ in files():
            self.assertRegex(text, "^[ -~\n]*$", path)
            lines = text.split("\n")
            self.assertLessEqual(len(lines), 400, path)
            for line in lines:
                self.assertLessEqual(len(line), 120, (path, line))

    def test_functions_are_short(self):
        for name, node in nodes(ast.FunctionDef):
            self.assertLessEqual(node.end_lineno - node.lineno + 1, 40, (name, node.name))

    def test_words_that_do_not_occur(self):
        for path, text, _ in files():
            self.assertEqual(WORDS & set(re.findall("[A-Za-z_]+", text)), set(), path)

    def test_strings(self):
        for name, node in nodes(ast.Constant):
            if isinstance(node.value, str):
                self.assertNotIn("%", node.value, name)
                self.assertNotIn("__", node.value, name)
            self.assertNotIsInstance(node.value, (float, complex, bytes), name)


class Statements(unittest.TestCase):
    def test_imports(self):
        own = {path.stem: defined(tree) for path, _, tree in files()}
        for name, node in nodes(ast.ImportFrom):
            for alias in node.names:
                self.assertIsNone(alias.asname, name)
                if node.module in LIBRARY:
                    self.assertIn(alias.name, LIBRARY[node.module], name)
                else:
                    package, file = node.module.split(".")
                    self.assertEqual(package, "dialsums", name)
                    self.assertIn(alias.name, own[file], name)

    def test_what_is_not_allowed(self):
        self.assertEqual(nodes(FORBIDDEN), [])

    def test_powers_stand_at_module_level_alone(self):
        for name, function in nodes(ast.FunctionDef):
            self.assertFalse([node for node in ast.walk(function) if isinstance(node, ast.Pow)], (name, function.name))

    def test_nothing_is_added_in_place(self):
        # A class has __iadd__, so that what an operator reaches may not have any += at all.
        self.assertEqual([(name, node.lineno) for name, node in nodes(ast.AugAssign)], [])

    def test_decorators(self):
        for name, node in nodes((ast.FunctionDef, ast.ClassDef)):
            for decorator in node.decorator_list:
                self.assertIn(decorator.id, ("property", "staticmethod"), (name, node.name))

    def test_names_of_imports_and_classes_mean_nothing_else(self):
        for path, _, tree in files():
            barred = {node.name for node in tree.body if isinstance(node, ast.ClassDef)}
            for node in tree.body:
                if isinstance(node, ast.ImportFrom):
                    barred.update(alias.name for alias in node.names)
            bound = [node.arg for node in ast.walk(tree) if isinstance(node, ast.arg)]
            bound += [node.id for node in ast.walk(tree) if isinstance(node, ast.Name) and isinstance(node.ctx, ast.Store)]
            bound += [node.name for node in ast.walk(tree) if isinstance(node, ast.FunctionDef)]
            self.assertEqual(barred & set(bound), set(), path)

    def test_no_two_files_import_from_each_other(self):
        needs = {}
        for path, _, tree in files():
            modules = [node.module for node in tree.body if isinstance(node, ast.ImportFrom)]
            needs[path.stem] = [module.split(".")[1] for module in modules if module.startswith("dialsums.")]
        done = []
        while len(done) < len(needs):
            ready = [name for name in needs if name not in done and all(need in done for need in needs[name])]
            self.assertNotEqual(ready, [], needs)
            done.extend(ready)

    def test_module_level(self):
        for path, _, tree in files():
            names = defined(tree)
            self.assertEqual(len(names), len(set(names)), path)
            for node in tree.body:
                self.assertIsInstance(node, (ast.Expr, ast.ImportFrom, ast.ClassDef, ast.FunctionDef, ast.Assign), path)


def asks_none(test):
    """Whether a test is a name or an attribute `is None` or `is not None`, or `and`, `or`, `not` of such."""
    if isinstance(test, ast.BoolOp):
        return all(asks_none(part) for part in test.values)
    if isinstance(test, ast.UnaryOp):
        return isinstance(test.op, ast.Not) and asks_none(test.operand)
    if not isinstance(test, ast.Compare) or len(test.ops) != 1 or not isinstance(test.ops[0], (ast.Is, ast.IsNot)):
        return False
    other = test.comparators[0]
    return isinstance(test.left, (ast.Name, ast.Attribute)) and isinstance(other, ast.Constant) and other.value is None


def wrong_tests(function):
    """The rows in which a function tests otherwise than asks_none tells, or asks anything outside of an if."""
    tests = [node.test for node in ast.walk(function) if isinstance(node, ast.If)]
    within = {part for test in tests for part in ast.walk(test)}
    asking = [node for node in ast.walk(function) if isinstance(node, ASKING) and node not in within]
    return [node.lineno for node in [test for test in tests if not asks_none(test)] + asking]


class Blocks(unittest.TestCase):
    """L6 With: what a block is left by only moves what it held."""

    def test_rows_of_exit(self):
        found = [node for name, node in nodes(ast.FunctionDef) if node.name == "__exit__"]
        self.assertEqual(len(found), 1)
        for node in found:
            self.assertEqual([part.arg for part in node.args.args], ["self", "kind", "value", "trace"])
            asked = [part.left for part in ast.walk(node) if isinstance(part, ast.Compare)]
            for part in ast.walk(node):
                if isinstance(part, ast.stmt):
                    self.assertIsInstance(part, (ast.FunctionDef, ast.Assign, ast.If), part.lineno)
                self.assertNotIsInstance(part, (ast.Call, ast.BinOp, ast.Subscript))
                if isinstance(part, ast.Name):
                    self.assertNotIn(part.id, ("value", "trace"))
                    self.assertTrue(part.id != "kind" or part in asked, part.lineno)

    def test_exit_asks_for_none_alone(self):
        for name, node in nodes(ast.FunctionDef):
            if node.name == "__exit__":
                self.assertEqual(wrong_tests(node), [], name)

    def test_other_tests_would_be_seen(self):
        for test in (
            "self.kept", "not self.kept", "kind is not None or not self.kept", "kind is None and self.kept", "kept", "True",
            "self.kept == None", "self.many == 1", "self.many > 0", "self.kept is True", "self.kept is kind", "None is kind",
            "kind is None is None", "self.kept() is None", "self.kept[0] is None", "self.kept in (None, 1)", "-self.many",
            "kind is None if self.kept is None else kind is not None", "bool(self.kept)", "not (kind is None or self.kept)",
        ):
            for rows in (f"if {test}:\n        self.many = 1", f"if kind is None:\n        if {test}:\n            self.many = 1"):
                tree = ast.parse(f"def __exit__(self, kind, value, trace):\n    {rows}\n")
                self.assertEqual(len(wrong_tests(tree.body[0])), 1, rows)
        for row in (
            "self.many = 1 if kind is None else 2", "self.many = self.one or 2", "self.many = kind is None", "self.many = -1",
            "self.many = [one for one in self.rows if one]",
        ):
            tree = ast.parse(f"def __exit__(self, kind, value, trace):\n    {row}\n")
            self.assertNotEqual(wrong_tests(tree.body[0]), [], row)
        for test in (
            "kind is None", "kind is not None", "self.kept is None", "kind is not None or self.kept is None", "not kind is None",
            "kept is not None", "self.place.kept is None", "kind is None and not (self.kept is None or self.one is not None)",
        ):
            tree = ast.parse(f"def __exit__(self, kind, value, trace):\n    if {test}:\n        self.many = 1\n")
            self.assertEqual(wrong_tests(tree.body[0]), [], test)

    def test_blocks_stand_over_a_call(self):
        for name, node in nodes(ast.With):
            for item in node.items:
                self.assertIsInstance(item.context_expr, ast.Call, (name, node.lineno))
                self.assertIsInstance(item.optional_vars, ast.Name, (name, node.lineno))


def functions():
    """{name: all functions and methods of this name}; a class stands for its __init__, and a property for itself."""
    found = {}
    for path, _, tree in files():
        for node in tree.body:
            if isinstance(node, ast.FunctionDef):
                found.setdefault(node.name, []).append((path.name, node))
            if isinstance(node, ast.ClassDef):
                for part in node.body:
                    if isinstance(part, ast.FunctionDef):
                        name = node.name if part.name == "__init__" else part.name
                        found.setdefault(name, []).append((path.name, part))
    return found


def is_property(node):
    """Whether a method is a property."""
    return any(isinstance(one, ast.Name) and one.id == "property" for one in node.decorator_list)


def beginnings():
    """The operators and the properties."""
    found = []
    for path, _, tree in files():
        for node in ast.walk(tree):
            if isinstance(node, ast.FunctionDef):
                is_operator = node.name.startswith("__") and node.name not in FREE
                if is_operator or is_property(node):
                    found.append((path.name, node))
    return found


def reached():
    """All functions that an operator or a property reaches, whatever it is that a method is called of."""
    known = functions()
    found = []
    left = beginnings()
    while left:
        name, function = left.pop()
        if function in [one for _, one in found]:
            continue
        found.append((name, function))
        for node in ast.walk(function):
            if isinstance(node, ast.Call) and isinstance(node.func, ast.Name):
                left.extend(known.get(node.func.id, ()))
            if isinstance(node, ast.Call) and isinstance(node.func, ast.Attribute):
                left.extend(known.get(node.func.attr, ()))
            # Properties are read without a call, and are beginnings themselves.
    return found


def makes(value):
    """Whether an expression gives a new list, dict or set."""
    if isinstance(value, (ast.List, ast.Dict, ast.Set, ast.ListComp, ast.DictComp, ast.SetComp)):
        return True
    if isinstance(value, ast.Call) and isinstance(value.func, ast.Name):
        return value.func.id in MAKING
    if isinstance(value, ast.Subscript):
        return isinstance(value.slice, ast.Slice)
    # Where a class has an __add__, both must be new.
    return isinstance(value, ast.BinOp) and isinstance(value.op, ast.Add) and makes(value.left) and makes(value.right)


def bound(function, name):
    """What a local variable is assigned in a function: the expressions, None where it is handed something."""
    found = [None for node in ast.walk(function.args) if isinstance(node, ast.arg) and node.arg == name]
    whole = set()
    for node in ast.walk(function):
        if isinstance(node, ast.Assign):
            for target in node.targets:
                if isinstance(target, ast.Name) and target.id == name:
                    found.append(node.value)
                    whole.add(target)
    for node in ast.walk(function):
        if isinstance(node, ast.Name) and node.id == name and isinstance(node.ctx, ast.Store) and node not in whole:
            found.append(None)
    return found


def changes(function):
    """(row, what is changed) of all changes of lists, dicts, sets and attributes in a function."""
    for node in ast.walk(function):
        if isinstance(node, ast.Call) and isinstance(node.func, ast.Attribute) and node.func.attr in CHANGING:
            yield node.lineno, node.func.value
        if isinstance(node, (ast.Subscript, ast.Attribute)) and isinstance(node.ctx, (ast.Store, ast.Del)):
            yield node.lineno, node.value


def wrong_changes(function):
    """The rows in which a function changes what it did not create itself."""
    found = []
    for row, changed in changes(function):
        if function.name == "__init__" and isinstance(changed, ast.Name) and changed.id == "self":
            continue
        assigned = bound(function, changed.id) if isinstance(changed, ast.Name) else []
        if not assigned or not all(value is not None and makes(value) for value in assigned):
            found.append(row)
    return found


class Created(unittest.TestCase):
    """L5: what an operator or a property reaches changes only what it creates itself."""

    def test_what_operators_and_properties_reach(self):
        names = [function.name for name, function in reached()]
        for name in ("__or__", "__invert__", "__add__", "text", "journal", "factored", "divided", "_least", "of", "behind"):
            self.assertIn(name, names)
        for name in ("__iadd__", "keep", "undo", "tried"):
            self.assertNotIn(name, names)
        for name, function in reached():
            self.assertEqual(wrong_changes(function), [], (name, function.name))

    def test_it_would_be_seen(self):
        for rows in (
            "found, left = divided(number, number)\n    found.append((left, 1))", "found = divided(number)\n    found[0] = 1",
            "number.append(1)", "found = []\n    found = number\n    found.pop()", "number[1] = 2", "del number[1]",
            "for found in number:\n        found.append(1)", "found = [[1]]\n    found[0].append(1)", "self.many = 1",
            "found = number + [1]\n    found.append(1)", "found = [1]\n    other(found)[0] = 1", "number.sort()",
        ):
            tree = ast.parse(f"def told(self, number):\n    {rows}\n")
            self.assertEqual(len(wrong_changes(tree.body[0])), 1, rows)
        for rows in (
            "found = []\n    found.append(number)", "found = dict(number)\n    found[1] = 2", "found = number[1:]\n    found.pop()",
            "found = [one for one in number]\n    del found[0]", "found = sorted([1])\n    found = [2]\n    found.sort()",
        ):
            tree = ast.parse(f"def told(self, number):\n    {rows}\n")
            self.assertEqual(wrong_changes(tree.body[0]), [], rows)


class Calls(unittest.TestCase):
    def test_builtins(self):
        for name, node in nodes(ast.Name):
            # Tests of examples leave a builtin _ behind.
            if hasattr(builtins, node.id) and node.id != "_":
                self.assertIn(node.id, BUILTINS, name)
                self.assertIsInstance(node.ctx, ast.Load, (name, node.id))

    def test_methods_of_builtin_values(self):
        known = set()
        for value in (1, "", [], {}, (), set(), b""):
            known.update(dir(value))
        for name, node in nodes(ast.Attribute):
            if node.attr in known:
                self.assertIn(node.attr, METHODS, (name, node.lineno))

    def test_what_is_sorted_is_plainly_numbers_or_strings(self):
        for name, node in nodes(ast.Call):
            if isinstance(node.func, ast.Name) and node.func.id in ("sorted", "min", "max"):
                self.assertTrue([one for one in node.args if is_plain(one)], (name, node.lineno))


if __name__ == "__main__":
    unittest.main()
