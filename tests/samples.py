"""Values of all kinds, and how a refusal is tested."""

import unittest

from dialsums.desk import Desk
from dialsums.dials import Dials
from dialsums.errors import DialError
from dialsums.plans import Plan
from dialsums.rooms import Room
from dialsums.rounds import Rounds
from dialsums.sums import Sum


def deep(depth):
    """A tuple in lists in dicts, nested so deep."""
    value = 1
    for level in range(depth):
        value = ((value,), [value], {"x": value})[level % 3]
    return value


NO_INTEGERS = (
    True, False, None, "", "1", "x", (), (1,), [], [1], {}, {1: 1}, deep(30),
    Sum(), Sum((), 1), Sum((("x", 1),)), Dials(1, ()), Dials(2, (2,), (4,)),
)

NO_NAMES = (
    0, 1, -1, True, False, None, "", "abcdefghi", "X", "xY", "x1", "x y", " x", "x ", "x\n", "\n", "-", "a_b", "2 x",
    (), ("x",), ["x"], {"x": 1}, deep(30), Sum((("x", 1),)), Dials(1, (1,)),
)

ANY = (
    0, 1, -1, 7, 10 ** 12, -10 ** 12, True, False, None, "", "x", "word", "2 x - y", "line\nfeed", "2 : 2 : -",
    (), (1,), (("x", 1),), ((), ((), [])), [], [1], [("x", 1)], {}, {"x": 1}, {1: [None]}, deep(30),
    Sum(), Sum((("x", 2), ("y", -1)), 5), Dials(1, ()), Dials(6, (1, 6), (6, 12)),
    Plan("people ann\nown ann x"), Rounds("people ann\nround\ndraw ann t"), Room(6, ("ann",)), Desk("6 ann"),
)


class Refusals(unittest.TestCase):
    """Tests of what is refused, and of the value that the error keeps."""

    def refused(self, error, value, call, *told, **named):
        """The call raises this very error, with this very value."""
        with self.assertRaises(DialError) as held:
            call(*told, **named)
        self.assertIs(held.exception.__class__, error, (told, named))
        self.assertIs(held.exception.value, value)
