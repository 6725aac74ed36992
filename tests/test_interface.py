"""The interface: what stands in which file, and in the body of which class."""

import ast
import unittest
from inspect import signature
from pathlib import Path

from dialsums import choosing, comparing, groups, playing, rooms, seeing, spreading, telling
from dialsums import rounds as dealt
from dialsums.desk import Desk
from dialsums.dials import Dials
from dialsums.plans import Plan
from dialsums.rooms import Room
from dialsums.rounds import Rounds
from dialsums.sums import Sum
from tests.test_errors import NAMES

FOLDER = Path(__file__).resolve().parent.parent / "dialsums"

OPERATORS_OF_SUMS = (
    "__getitem__ __len__ __contains__ __call__ __add__ __radd__ __sub__ __rsub__ __neg__ __mul__ __rmul__ __mod__ __eq__"
)
OPERATORS_OF_DIALS = (
    "__contains__ __or__ __and__ __sub__ __xor__ __invert__ __le__ __lt__ __ge__ __gt__ __eq__"
)
OPERATORS_OF_PLANS = "__len__ __getitem__ __contains__ __add__ __eq__"
OPERATORS_OF_ROOMS = "__len__ __getitem__ __contains__ __iadd__ __eq__"
METHODS_OF_ROOMS = (
    "dial plan numbers done own draw reckon hand call burn seen part undo redo journal trial tried keep copy "
)

LISTED = {
    "sums.py": {"Sum": "parts number names text of put " + OPERATORS_OF_SUMS},
    "dials.py": {"Dials": "whole shares others text of is_empty is_endless after many " + OPERATORS_OF_DIALS},
    "plans.py": {"Plan": "text people owns draws notes row saw has rows without " + OPERATORS_OF_PLANS},
    "rounds.py": {"Rounds": "text plan kept calls later __eq__"},
    "rooms.py": {"Room": METHODS_OF_ROOMS + OPERATORS_OF_ROOMS},
    "desk.py": {"Desk": "room say"},
    "errors.py": {name: "" for name in ["DialError"] + NAMES},
}

PROPERTIES = {
    Sum: "parts number names text", Dials: "whole shares others text is_empty is_endless",
    Plan: "text people owns draws notes", Rounds: "text plan kept calls", Room: "dial plan numbers done journal", Desk: "room",
}

FUNCTIONS = {
    telling: {
        "known": "(rows, goal, dial)", "shows_known": "(rows, goal, dial, value)", "leak": "(rows, goals, dial)",
        "shows_leak": "(rows, goals, dial, value)",
    },
    spreading: {"parts": "(rows, goal)", "told": "(rows, goal)", "hidden": "(rows, goals)"},
    playing: {"played": "(plan, dial, numbers)", "seen": "(plan, people, dial, numbers, *, by='saw')"},
    groups: {
        "knowers": "(plan, goal, dial, *, by='saw')", "classes": "(plan, goal, *, by='saw')",
        "strangers": "(plan, goal, few, *, by='saw')",
    },
    comparing: {
        "within": "(one, other, *, by='saw')", "agreeing": "(one, other, *, by='saw')",
        "parting": "(one, other, dial, *, by='saw')", "shows_parting": "(one, other, dial, value, *, by='saw')",
    },
    seeing: {
        "fitting": "(plan, notes)", "could": "(plan, notes, goal, dial)", "shows_could": "(plan, notes, goal, dial, value)",
    },
    choosing: {"cheapest": "(plan, offers, wishes)"},
    dealt: {
        "looked": "(rounds, looks, goal, dial)", "ever": "(rounds, goal, few, dial, word='told')",
        "shows_ever": "(rounds, goal, few, dial, value, word='told')",
    },
    rooms: {"read_room": "(dial, people, lines)"},
}

PARAMETERS = {
    Rounds: "(text)", Rounds.later: "(self, note)", Room: "(dial, people)", Room.own: "(self, person, note, number)",
    Room.draw: "(self, person, note, number)", Room.reckon: "(self, person, note, total)", Room.hand: "(self, person, other, note)",
    Room.call: "(self, person, note)", Room.burn: "(self, person, note)", Room.seen: "(self, people, *, by='saw')",
    Room.part: "(self, people, goal)", Room.undo: "(self)", Room.redo: "(self)", Room.trial: "(self)", Room.keep: "(self)",
    Room.tried: "(self, look, *, keep=False)", Room.copy: "(self)", Desk: "(text)", Desk.say: "(self, line)",
}


def classes(file):
    """The classes that a file defines, each with what its body defines."""
    tree = ast.parse((FOLDER / file).read_text())
    found = {}
    for node in tree.body:
        if isinstance(node, ast.ClassDef):
            found[node.name] = [part.name for part in node.body if isinstance(part, ast.FunctionDef)]
    return found


class Interface(unittest.TestCase):
    def test_each_class_and_method_stands_where_it_is_listed(self):
        for file, listed in LISTED.items():
            found = classes(file)
            for name, methods in listed.items():
                self.assertIn(name, found)
                for method in methods.split():
                    self.assertIn(method, found[name], (file, name))

    def test_each_function_stands_where_it_is_listed(self):
        for module, listed in FUNCTIONS.items():
            for name, parameters in listed.items():
                made = getattr(module, name)
                self.assertEqual(made.__module__, module.__name__, name)
                self.assertEqual(str(signature(made)), parameters, name)

    def test_properties(self):
        for owner, names in PROPERTIES.items():
            for name in names.split():
                self.assertIsInstance(owner.__dict__[name], property, name)

    def test_parameters(self):
        self.assertEqual(str(signature(Sum)), "(parts=(), number=0)")
        self.assertEqual(str(signature(Sum.of)), "(text)")
        self.assertEqual(str(signature(Sum.put)), "(self, name, other)")
        self.assertEqual(str(signature(Dials)), "(whole, shares, others=())")
        self.assertEqual(str(signature(Dials.of)), "(text)")
        self.assertEqual(str(signature(Dials.after)), "(self, dial)")
        self.assertEqual(str(signature(Dials.many)), "(self, upto)")
        self.assertEqual(str(signature(Plan)), "(text)")
        self.assertEqual(str(signature(Plan.row)), "(self, note)")
        self.assertEqual(str(signature(Plan.saw)), "(self, person)")
        self.assertEqual(str(signature(Plan.has)), "(self, person)")
        self.assertEqual(str(signature(Plan.rows)), "(self, people, *, by='saw')")
        self.assertEqual(str(signature(Plan.without)), "(self, number)")

        for made, parameters in PARAMETERS.items():
            self.assertEqual(str(signature(made)), parameters, made)

    def test_no_module_lists_more_or_less_than_the_interface(self):
        """All modules of the interface are there, with just one helper beside them."""
        found = sorted(path.stem for path in FOLDER.glob("*.py"))
        self.assertEqual(found, sorted((
            "__init__ errors sums dials telling spreading plans playing groups comparing seeing choosing rounds rooms desk basics"
        ).split()))

    def test_what_is_listed_is_set_on_each_object(self):
        for made, names in ((Sum(), "parts number names text of put"), (Plan("people ann"), LISTED["plans.py"]["Plan"]),
                            (Dials(1, ()), "whole shares others text of is_empty is_endless after many"),
                            (Rounds("people ann\nround\ndraw ann t"), "text plan kept calls later"),
                            (Room(6, ("ann",)), METHODS_OF_ROOMS), (Desk("6 ann"), "room say")):
            for name in names.split():
                self.assertTrue(hasattr(made, name), name)


if __name__ == "__main__":
    unittest.main()
