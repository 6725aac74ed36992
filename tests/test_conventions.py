"""Section 2, as far as it reaches the modules that are there."""

import copy
import unittest

from dialsums.dials import Dials
from dialsums.errors import (
    BadDial, BadName, BadNumber, BadNumbers, BadOthers, BadParts, BadRows, BadShares, BadSum, BadText, BadValues, BadWhole,
    NoLine, TooGreat,
)
from dialsums.plans import Plan
from dialsums.playing import played, seen
from dialsums.spreading import hidden, parts, told
from dialsums.sums import Sum
from dialsums.telling import known, leak, shows_known, shows_leak
from tests.samples import ANY, NO_INTEGERS, NO_NAMES, Refusals

X = Sum((("x", 1),))
EVEN = Dials(2, (2,))
PLAN = Plan("people ann\nown ann x")


class Integers(Refusals):
    def test_a_bool_is_no_integer(self):
        for value in (True, False):
            self.refused(BadNumber, value, Sum, (), value)
            self.refused(BadWhole, value, Dials, value, ())
            self.refused(BadDial, value, EVEN.after, value)
            self.refused(BadNumber, value, EVEN.many, value)
            self.refused(BadDial, value, X.__mod__, value)
            parts, shares, values = (("x", value),), (value,), {"x": value}
            self.refused(BadParts, parts, Sum, parts)
            self.refused(BadShares, shares, Dials, 2, shares)
            self.refused(BadOthers, shares, Dials, 2, (1,), shares)
            self.refused(BadValues, values, X, values)
            self.refused(BadDial, value, known, (), X, value)
            self.refused(BadDial, value, leak, (), (X,), value)
            self.refused(NoLine, value, PLAN.without, value)
            self.refused(BadNumbers, shares, played, PLAN, 2, shares)
            self.refused(BadNumbers, shares, seen, PLAN, ("ann",), 2, shares)

    def test_true_is_not_1(self):
        self.assertFalse(Sum((), 1) == True)  # noqa: E712
        self.assertFalse(Dials(1, (1,)) == True)  # noqa: E712
        self.assertIs(True in Dials(1, (1,)), False)
        self.assertIs(True in X, False)


class Names(Refusals):
    def test_names(self):
        for name in ("a", "z", "abcdefgh", "zzzzzzzz", "if", "none"):
            self.assertEqual(Sum(((name, 1),)).text, name)
            self.assertEqual(X[name], 0)
            self.assertEqual(X.put(name, X), X)

    def test_no_names(self):
        for name in NO_NAMES:
            self.refused(BadName, name, X.__getitem__, name)
            self.refused(BadName, name, X.put, name, X)


class Lists(Refusals):
    def test_a_list_is_no_tuple(self):
        parts = [("x", 1)]
        self.refused(BadParts, parts, Sum, parts)
        inner = (["x", 1],)
        self.refused(BadParts, inner, Sum, inner)
        shares = [2]
        self.refused(BadShares, shares, Dials, 2, shares)
        self.refused(BadOthers, shares, Dials, 2, (2,), shares)
        rows = [X]
        self.refused(BadRows, rows, known, rows, X, 2)
        self.refused(BadRows, rows, hidden, rows, (X,))


class AnyValue(Refusals):
    """What is no such value is refused, whatever it is, and kept as the very value."""

    def test_sums(self):
        for value in ANY:
            if not isinstance(value, tuple) or value not in ((), (("x", 1),)):
                self.refused(BadParts, value, Sum, value)
            if isinstance(value, bool) or not isinstance(value, int):
                self.refused(BadNumber, value, Sum, (), value)
                self.refused(BadDial, value, X.__mod__, value)
            if value not in ("x", "word"):
                self.refused(BadName, value, X.__getitem__, value)
                self.refused(BadName, value, X.put, value, X)
            if not isinstance(value, Sum):
                self.refused(BadSum, value, X.put, "x", value)
            if not isinstance(value, dict) or "x" not in value:
                self.refused(BadValues, value, X, value)
            if value not in ("x", "word", "2 x - y"):
                self.refused(BadText, value, Sum.of, value)

    def test_dials(self):
        for value in ANY:
            if value is True or value not in (1, 7):
                self.refused(BadWhole, value, Dials, value, ())
                self.refused(BadDial, value, EVEN.after, value)
                self.refused(BadNumber, value, EVEN.many, value)
            if value not in ((), (1,)):
                self.refused(BadShares, value, Dials, 6, value)
            if value != ():
                self.refused(BadOthers, value, Dials, 6, (6,), value)
            if value != "2 : 2 : -":
                self.refused(BadText, value, Dials.of, value)


class Dial(Refusals):
    def test_bounds_of_a_dial_that_is_handed_in(self):
        self.assertEqual((5 * X % 2, (10 ** 6 + 1) * X % 10 ** 6), (X, X))
        for dial in (1, 0, -2, 10 ** 6 + 1):
            self.refused(BadDial, dial, X.__mod__, dial)
            self.refused(BadDial, dial, known, (), X, dial)
            self.refused(BadDial, dial, played, PLAN, dial, (0,))

    def test_what_is_told_holds_for_greater_dials(self):
        self.assertIs(10 ** 6 + 2 in EVEN, True)
        self.assertEqual(EVEN.after(10 ** 6), 10 ** 6 + 2)
        self.assertIs(10 ** 15 in EVEN, True)


class Sequence(Refusals):
    """The error of the first wrong parameter is raised, however the arguments are passed."""

    def test_sums(self):
        for wrong in (None, True, [1], "?"):
            self.refused(BadParts, wrong, Sum, wrong, wrong)
            self.refused(BadParts, wrong, Sum, number=None, parts=wrong)
            self.refused(BadNumber, wrong, Sum, (("x", 1),), wrong)
            self.refused(BadName, wrong, X.put, wrong, wrong)
            self.refused(BadName, wrong, X.put, other=None, name=wrong)
            self.refused(BadSum, wrong, X.put, "y", wrong)

    def test_dials(self):
        for wrong in (None, True, [1], "?"):
            self.refused(BadWhole, wrong, Dials, wrong, wrong, wrong)
            self.refused(BadShares, wrong, Dials, 6, wrong, wrong)
            self.refused(BadOthers, wrong, Dials, 6, (1, 2), wrong)
            self.refused(BadShares, wrong, Dials, others=None, shares=wrong, whole=6)

    def test_other_operands_come_ahead_of_what_is_too_great(self):
        great = Dials(10 ** 9, (10 ** 9,))
        for value in NO_INTEGERS:
            if not isinstance(value, Dials):
                self.assertRaises(TypeError, lambda: great | value)
        self.assertRaises(TooGreat, lambda: great | Dials(3, (3,)))


class Unchanged(unittest.TestCase):
    def test_arguments_stay(self):
        values = {"x": 1, "y": 2}
        X(values)
        self.assertEqual(values, {"x": 1, "y": 2})
        for value in ([("x", 1)], {"x": None}, [2, 1], {"y": 1}):
            before = copy.deepcopy(value)
            for call in (Sum, Sum.of, X, lambda one: Dials(6, one), Dials.of, lambda one: X.put(one, X)):
                try:
                    call(value)
                except ValueError:
                    pass
            self.assertEqual(value, before)

    def test_rows_goals_and_plans_stay(self):
        rows, goals, plan = (Sum.of("4 x + y"), Sum.of("r - 7")), (X, Sum.of("r + y")), Plan("people ann ben\nown ann x")
        texts = [one.text for one in rows + goals + (plan,)]
        told_first = known(rows, X, 12), leak(rows, goals, 12)
        value = [told_first[0], list(told_first[1])]
        before = copy.deepcopy(value)
        shows_known(rows, X, 12, value), shows_leak(rows, goals, 12, value)
        parts(rows, X), told(rows, X), hidden(rows, goals), played(plan, 6, (1,)), seen(plan, ("ben",), 6, (1,))
        plan + "call ann x", plan.without(2), plan.rows(("ann",), by="has")
        for call in (lambda: plan + "call ben x", lambda: plan.without(1), lambda: played(plan, 6, (6,))):
            self.assertRaises(ValueError, call)
        self.assertEqual([one.text for one in rows + goals + (plan,)], texts)
        self.assertEqual((plan.saw("ben"), len(plan), value), ((), 2, before))
        self.assertEqual((known(rows, X, 12), leak(rows, goals, 12)), told_first)

    def test_objects_stay_when_a_call_raises(self):
        total, dials = Sum.of("-r + 2 x + 5"), Dials(4, (4,), (6,))
        for call in (
            lambda: total % 1, lambda: total.put("x", 1), lambda: total["X"], lambda: total({}), lambda: dials.after(0),
            lambda: dials.many(0), lambda: dials | Dials(5 ** 12, (5 ** 12,)) & Dials(1024, (1024,)),
        ):
            self.assertRaises(ValueError, call)
        self.assertEqual((total.text, dials.text), ("-r + 2 x + 5", "4 : 4 : 6"))

    def test_properties_are_not_assigned(self):
        for one, names in ((X, ("parts", "number", "names", "text")), (EVEN, ("whole", "shares", "others", "text"))):
            for name in names:
                self.assertRaises(AttributeError, setattr, one, name, 1)

    def test_equal_calls_return_equal_results(self):
        for _ in range(2):
            self.assertEqual(Sum.of("2 x - y"), Sum((("x", 2), ("y", -1))))
            self.assertEqual([EVEN.after(7), EVEN.many(7), (~EVEN).text], [8, 3, "2 : 1 : -"])


class ToldAgain(unittest.TestCase):
    """What was told may be handed in again, however great it is."""

    def test_great_sums(self):
        great = Sum((("x", 10 ** 12 - 1),), 10 ** 12 - 1)
        for _ in range(6):
            great = great * (10 ** 12 - 1)
        self.assertEqual(Sum.of(great.text), great)
        self.assertEqual(Sum(great.parts, great.number), great)
        self.assertEqual(Sum((("x", 1),))({"x": great.number}), great.number)

    def test_great_dials(self):
        after = EVEN.after(10 ** 9)
        self.assertIs(after in EVEN, True)


if __name__ == "__main__":
    unittest.main()
