"""The interface: what stands in which file, and in the body of which class."""

import ast
import unittest
from inspect import signature
from pathlib import Path

from dialsums.dials import Dials
from dialsums.sums import Sum
from tests.test_errors import NAMES

FOLDER = Path(__file__).resolve().parent.parent / "dialsums"

OPERATORS_OF_SUMS = (
    "__getitem__ __len__ __contains__ __call__ __add__ __radd__ __sub__ __rsub__ __neg__ __mul__ __rmul__ __mod__ __eq__"
)
OPERATORS_OF_DIALS = (
    "__contains__ __or__ __and__ __sub__ __xor__ __invert__ __le__ __lt__ __ge__ __gt__ __eq__"
)

LISTED = {
    "sums.py": {"Sum": "parts number names text of put " + OPERATORS_OF_SUMS},
    "dials.py": {"Dials": "whole shares others text of is_empty is_endless after many " + OPERATORS_OF_DIALS},
    "errors.py": {name: "" for name in ["DialError"] + NAMES},
}

PROPERTIES = {Sum: "parts number names text", Dials: "whole shares others text is_empty is_endless"}


def classes(file):
    """The classes that a file defines, each with what its body defines."""
    tree = ast.parse((FOLDER / file).read_text())
    found = {}
    for node in tree.body:
        if isinstance(node, ast.ClassDef):
            found[node.name] = [part.name for part in node.body if isinstance(part, ast.FunctionDef)]
    return found


class Interface(unittest.TestCase):
    def test_each_class_and_method_stands_where_it_is_listed(self):
        for file, listed in LISTED.items():
            found = classes(file)
            for name, methods in listed.items():
                self.assertIn(name, found)
                for method in methods.split():
                    self.assertIn(method, found[name], (file, name))

    def test_properties(self):
        for owner, names in PROPERTIES.items():
            for name in names.split():
                self.assertIsInstance(owner.__dict__[name], property, name)

    def test_parameters(self):
        self.assertEqual(str(signature(Sum)), "(parts=(), number=0)")
        self.assertEqual(str(signature(Sum.of)), "(text)")
        self.assertEqual(str(signature(Sum.put)), "(self, name, other)")
        self.assertEqual(str(signature(Dials)), "(whole, shares, others=())")
        self.assertEqual(str(signature(Dials.of)), "(text)")
        self.assertEqual(str(signature(Dials.after)), "(self, dial)")
        self.assertEqual(str(signature(Dials.many)), "(self, upto)")


if __name__ == "__main__":
    unittest.main()
