"""Section 6: what rows tell on one dial."""

import random
from itertools import product
from math import gcd

from dialsums.dials import Dials
from dialsums.errors import BadDial, BadRows, BadSum, BadSums
from dialsums.plans import Plan
from dialsums.sums import Sum
from dialsums.telling import known, leak, shows_known, shows_leak
from tests import ways
from tests.samples import ANY, NO_INTEGERS, Refusals

X, Y = Sum.of("x"), Sum.of("y")
FOUR = (Sum.of("4 x"),)

GREAT_DIALS = (
    97, 128, 144, 360, 961, 1000, 1331, 2 ** 16, 30030, 31 ** 3, 46656, 65536, 99991, 117649, 510510, 720720,
    823543, 965 ** 2, 997 ** 2, 999983, 2 ** 19, 3 ** 12, 5 ** 8, 10 ** 6 - 1, 10 ** 6,
)

NO_SUMS = tuple(value for value in ANY if not isinstance(value, Sum)) + (
    (X,), [X], "4 x", (("x", 1),), Dials(2, (2,)), Plan("people ann"), Sum((("x", 10000),)), Sum((("x", -10000),)),
    Sum((("a", 1), ("x", 10 ** 12)), 1),
)
NO_ROWS = tuple(value for value in ANY if value != ()) + (
    X, [X], [], {}, (X, None), (X, "x"), (X, [X]), ((X,),), (X, (X,)), (1,), (X, True), (Sum((("x", 10000),)),),
    (X, Sum((("x", -10000),))), (X,) * 13, (Sum(),) * 13, (Dials(1, ()),), {"x": X}, (Plan("people ann"),),
)
NO_GOALS = tuple(value for value in ANY) + (
    X, [X], (X, None), (X, "x"), ((X,),), (1,), (X, True), (Sum((("x", 10000),)),), (X, Y, X, Sum((("y", -10000),))),
    (X,) * 5, (Sum(),) * 5, (Dials(1, ()),), {"x": X},
)
NO_DIALS = NO_INTEGERS + (1, 0, -1, -2, 10 ** 6 + 1, 10 ** 12, Plan("people ann"))


class Checks(Refusals):
    def right(self, rows, goal, dial):
        """What known tells is right, by what section 6 tells of it; returns the part."""
        told = known(rows, goal, dial)
        self.assertIs(told.__class__, tuple)
        number, weights, change = told
        self.assertTrue(number.__class__ is int and 1 <= number <= dial and dial % number == 0)
        self.assertTrue(weights.__class__ is tuple and len(weights) == len(rows))
        for weight in weights:
            self.assertTrue(weight.__class__ is int and 0 <= weight < dial)
        self.assertIs(change.__class__, tuple)
        names = [name for name, more in change]
        self.assertEqual(names, sorted(set(names)))
        for pair in change:
            self.assertTrue(pair.__class__ is tuple and pair[1].__class__ is int and 1 <= pair[1] < dial)
        self.assertTrue(ways.weighs(rows, goal, dial, number, weights), (rows, goal, dial))
        self.assertTrue(ways.changes(rows, goal, dial, number, change), (rows, goal, dial))
        self.assertIs(shows_known(rows, goal, dial, told), True)
        return number

    def right_leak(self, rows, goals, dial):
        """What leak tells is right as far as it tells it itself; returns whether nothing is told."""
        told = leak(rows, goals, dial)
        self.assertIs(shows_leak(rows, goals, dial, told), True)
        self.assertIs(shows_leak(rows, goals, dial, None), told is None)
        if told is None:
            return True
        self.assertIs(told.__class__, tuple)
        shares, weights = told
        self.assertTrue(shares.__class__ is tuple and len(shares) == len(goals))
        self.assertTrue(weights.__class__ is tuple and len(weights) == len(rows))
        for number in shares + weights:
            self.assertTrue(number.__class__ is int and 0 <= number < dial)
        self.assertTrue(ways.leaks(rows, goals, dial, shares, weights), (rows, goals, dial))
        return False


class Parts(Checks):
    """A change shows that nothing more is known, weights that so much is: right ones settle the part."""

    def test_by_all_ways(self):
        for dial, names, many in ((2, "abcd", 90), (3, "abcd", 60), (4, "abc", 120), (5, "abc", 40), (6, "abc", 90),
                                  (8, "abc", 60), (9, "abc", 40), (12, "ab", 60), (16, "ab", 40), (18, "ab", 40),
                                  (36, "ab", 20)):
            for rows, goals in ways.cases(dial, many, names, (1, 3, 6, 12)):
                self.assertEqual(self.right(rows, goals[0], dial), ways.part(rows, goals[0], dial), (rows, goals, dial))

    def test_all_of_one_row_and_one_name(self):
        for dial in range(2, 17):
            for one, goal in product(range(-dial, dial + 1), repeat=2):
                rows = (one * X,)
                self.assertEqual(known(rows, goal * X, dial)[0], ways.part(rows, goal * X, dial))

    def test_great_dials(self):
        for dial in GREAT_DIALS:
            for rows, goals in ways.cases(dial, 12, "abcdefgh", (1, 9, 60, 9999), rows=12):
                self.right(rows, goals[0], dial)

    def test_many_names(self):
        names = ["n" + chr(97 + at) for at in range(26)]
        for dial in (30, 961, 2 ** 16, 10 ** 6):
            for rows, goals in ways.cases(dial, 12, names, (2, 9999), rows=12):
                self.right(rows, goals[0], dial)

    def test_goals_that_rows_come_to(self):
        source = random.Random(4)
        for dial in GREAT_DIALS:
            rows = tuple(ways.some_sum(source, "abcdefgh", 20) for _ in range(5))
            goal = Sum()
            for row in rows:
                goal = goal + source.randint(-9, 9) * row
            self.assertEqual(self.right(rows, goal, dial), dial)

    def test_multiples_of_what_is_told(self):
        for dial in GREAT_DIALS:
            for many in (1, 2, 6, 30, 961, 9999):
                self.assertEqual(self.right((many * X,), X, dial), dial // gcd(many, dial))
                self.assertEqual(self.right((), many * X, dial), gcd(many, dial))
                self.assertEqual(self.right((X + many * Y,), X, dial), gcd(many, dial))

    def test_some_parts(self):
        self.assertEqual([known(FOUR, X, dial)[0] for dial in (2, 3, 4, 8, 12, 10 ** 6)], [1, 3, 1, 2, 3, 250000])
        both = (Sum.of("2 r + x"), Sum.of("4 r + x"))
        self.assertEqual([known(both, X, dial)[0] for dial in (2, 4, 9, 10 ** 6)], [2, 4, 9, 10 ** 6])

    def test_goals_without_names(self):
        for goal in (Sum(), Sum((), 5), Sum((), -10 ** 30)):
            for rows in ((), FOUR, (goal,), (goal, X)):
                self.assertEqual(self.right(rows, goal, 6), 6)

    def test_rows_without_names(self):
        self.assertEqual(self.right((Sum(), Sum((), 3)), X, 6), 1)
        self.assertEqual(self.right((Sum(), 6 * X), X, 6), 1)

    def test_no_rows_and_no_change(self):
        self.assertEqual(known((), X, 10)[:2], (1, ()))
        self.assertIs(shows_known((X,), X, 10, (10, (1,), ())), True)

    def test_numbers_beside_do_not_count(self):
        for number in (0, 1, -1, 10000, -10 ** 40, 10 ** 40):
            rows = (Sum.of("4 x") + number, Sum.of("x + y") - number)
            self.assertEqual(self.right(rows, X + number, 12), 3)
            self.assertEqual(self.right_leak(rows, (X + number, Y - number), 12), False)
            self.assertEqual(self.right_leak(rows[1:], (X + number,), 12), True)


class Leaks(Checks):
    def test_by_all_ways(self):
        for dial, names, many in ((2, "abcd", 120), (3, "abcd", 60), (4, "abc", 160), (5, "abc", 40), (6, "abc", 120),
                                  (8, "abc", 80), (9, "abc", 40), (12, "ab", 80), (16, "ab", 60), (36, "ab", 20)):
            for rows, goals in ways.cases(100 + dial, many, names, (1, 2, 6, 12), goals=4):
                expected = ways.is_hidden(rows, goals, dial)
                self.assertIs(self.right_leak(rows, goals, dial), expected, (rows, goals, dial))

    def test_all_of_one_row_and_one_goal(self):
        for dial in range(2, 17):
            for one, goal in product(range(dial), repeat=2):
                rows, goals = (one * X,), (goal * X,)
                self.assertIs(leak(rows, goals, dial) is None, ways.is_hidden(rows, goals, dial))

    def test_great_dials(self):
        for dial in GREAT_DIALS:
            for rows, goals in ways.cases(200 + dial, 12, "abcdefgh", (1, 9, 60, 9999), rows=12, goals=4):
                self.right_leak(rows, goals, dial)

    def test_many_names(self):
        names = ["n" + chr(97 + at) for at in range(26)]
        for dial in (30, 961, 10 ** 6):
            for rows, goals in ways.cases(dial, 8, names, (2, 9999), rows=12, goals=4):
                self.right_leak(rows, goals, dial)

    def test_against_parts(self):
        """One goal is hidden just if its part is no greater than without rows."""
        for dial in GREAT_DIALS:
            for rows, goals in ways.cases(300 + dial, 12, "abcdef", (1, 2, 60, 9999), rows=4):
                less = known((), goals[0], dial)[0]
                self.assertIs(leak(rows, goals, dial) is None, known(rows, goals[0], dial)[0] == less)

    def test_a_sum_of_goals_alone(self):
        rows, goals = (Sum.of("a + b + c"),), (Sum.of("a"), Sum.of("b"), Sum.of("c"))
        self.assertIs(self.right_leak(rows, goals, 10), False)
        for few in (goals[:2], goals[1:], goals[:1]):
            self.assertIs(self.right_leak(rows, few, 10), True)

    def test_goals_that_are_told_anyway_are_hidden(self):
        self.assertIs(self.right_leak((X,), (Sum((), 5),), 6), True)
        self.assertIs(self.right_leak((X,), (6 * X, 12 * Y), 6), True)
        self.assertIs(self.right_leak((), (X, Y, X, X + Y), 6), True)

    def test_one_to_four_goals(self):
        for many in (1, 2, 3, 4):
            self.assertIs(self.right_leak((X + Y,), (X,) * many, 4), True)
            self.assertIs(self.right_leak((X,), (X,) * many, 4), False)


class Shown(Checks):
    """shows_known and shows_leak tell of any value whether it is right by itself."""

    def test_all_values_of_known_on_small_dials(self):
        cases = (
            ((Sum.of("2 x"),), X), ((Sum.of("2 x + y"),), X), ((X,), X), ((), X), ((X, Y), X + Y), ((2 * X, X + Y), Y),
            ((Sum(),), 2 * X), ((X + Y,), Sum((), 1)),
        )
        for (rows, goal), dial in product(cases, (2, 3, 4)):
            right = ways.part(rows, goal, dial)
            numbers = list(product(range(dial), repeat=2))
            for number, weights in product(range(-1, dial + 2), product(range(dial), repeat=len(rows))):
                for pair in numbers:
                    change = tuple((name, more) for name, more in zip("xy", pair) if more)
                    expected = number == right and ways.weighs(rows, goal, dial, right, weights)
                    expected = expected and ways.changes(rows, goal, dial, right, change)
                    told = shows_known(rows, goal, dial, (number, weights, change))
                    self.assertIs(told, expected, (rows, goal, dial, number, weights, change))

    def test_all_values_of_leak_on_small_dials(self):
        cases = (
            ((Sum.of("2 x"),), (X,)), ((Sum.of("2 x + y"),), (X,)), ((X,), (X, Y)), ((), (X,)), ((X, Y), (X + Y,)),
            ((2 * X, X + Y), (Y,)), ((Sum(),), (2 * X, Y)), ((X + Y,), (X, Y)), ((X + Y,), (Sum((), 1), 2 * Y)),
        )
        for (rows, goals), dial in product(cases, (2, 3, 4)):
            for shares, weights in product(product(range(dial), repeat=len(goals)), product(range(dial), repeat=len(rows))):
                expected = ways.leaks(rows, goals, dial, shares, weights)
                self.assertIs(shows_leak(rows, goals, dial, (shares, weights)), expected)
            self.assertIs(shows_leak(rows, goals, dial, None), ways.is_hidden(rows, goals, dial))

    def test_changes_of_other_names(self):
        right = (3, (2,), (("x", 3),))
        self.assertIs(shows_known(FOUR, X, 6, right), True)
        for change in ((("a", 5), ("x", 3)), (("x", 3), ("zzzzzzzz", 1)), (("x", 3), ("y", 4), ("z", 2))):
            self.assertIs(shows_known(FOUR, X, 6, (3, (2,), change)), True)
        self.assertIs(shows_known((X,), X, 6, (6, (1,), (("y", 2),))), True)
        self.assertIs(shows_known((X + Y,), X + Y, 6, (6, (1,), (("x", 2), ("y", 4)))), True)

    def test_wrong_values_of_known(self):
        part, weights, change = 3, (2,), (("x", 3),)
        wrong = ANY + (
            [part, weights, change], (part, weights), (part, weights, change, change), (part, list(weights), change),
            (part, weights, list(change)), (part, weights, (["x", 3],)), (True, weights, change), ("3", weights, change),
            (None, weights, change), ((3,), weights, change), (3, (True,), change), (3, ("2",), change), (3, 2, change),
            (3, None, change), (3, (), change), (3, (2, 0), change), (3, (8,), change), (3, (-4,), change), (3, (3,), change),
            (3, (None,), change), (3, weights, None), (3, weights, {"x": 3}), (3, weights, ()), (3, weights, (("x", 9),)),
            (3, weights, (("x", -3),)), (3, weights, (("x", 3), ("y", 0))), (3, weights, (("x", 3), ("y", 6))),
            (3, weights, (("x", 3), ("a", 1))), (3, weights, (("x", 3), ("x", 3))), (3, weights, (("x", 3, 3),)),
            (3, weights, (("x",),)), (3, weights, ("x", 3)), (3, weights, (("X", 1), ("x", 3))),
            (3, weights, (("", 1), ("x", 3))), (3, weights, (("x", 3), ("xxxxxxxxx", 1))), (3, weights, (("x", True),)),
            (3, weights, ((1, 1), ("x", 3))), (3, weights, (("x", 3), (None, 1))), (3, weights, (("x", 3), "y")),
            (3, weights, (("x", 3), ())), (1, weights, (("x", 3),)), (6, weights, (("x", 3),)), (2, weights, change),
            (0, weights, change), (-3, weights, change), (9, weights, change), (1, (0,), ()), (6, (0,), ()),
            X, FOUR, Dials(2, (2,)),
        )
        for value in wrong:
            self.assertIs(shows_known(FOUR, X, 6, value), False, value)

    def test_true_is_no_part_no_weight_and_no_change(self):
        self.assertIs(shows_known((), X, 2, (1, (), (("x", 1),))), True)
        self.assertIs(shows_known((), X, 2, (True, (), (("x", 1),))), False)
        self.assertIs(shows_known((), X, 2, (1, (), (("x", True),))), False)
        self.assertIs(shows_known((X,), X, 2, (2, (1,), ())), True)
        self.assertIs(shows_known((X,), X, 2, (2, (True,), ())), False)
        self.assertIs(shows_known((X, Y), X, 2, (2, (1, False), ())), False)
        self.assertIs(shows_leak((X,), (X,), 2, ((1,), (1,))), True)
        self.assertIs(shows_leak((X,), (X,), 2, ((True,), (1,))), False)
        self.assertIs(shows_leak((X,), (X,), 2, ((1,), (True,))), False)

    def test_numbers_that_are_right_but_for_their_bounds(self):
        self.assertEqual([shows_known((Y,), X, 6, (1, (many,), (("x", 1),))) for many in (0, 6, -6)], [True, False, False])
        self.assertEqual([shows_known(FOUR, X, 6, (3, (many,), (("x", 3),))) for many in (5, -1, 11)], [True, False, False])
        self.assertEqual([shows_known((), X, 6, (1, (), (("x", many),))) for many in (1, 7, -5)], [True, False, False])
        self.assertEqual([shows_leak((X,), (X,), 6, ((1,), (many,))) for many in (1, 7, -5)], [True, False, False])
        self.assertEqual([shows_leak((X, Y), (X,), 6, ((1,), (1, many))) for many in (0, 6, -6)], [True, False, False])
        self.assertEqual([shows_leak((X,), (X, Y), 6, ((1, many), (1,))) for many in (0, 6, -6)], [True, False, False])
        self.assertEqual([shows_leak((5 * X,), (X,), 6, ((many,), (1,))) for many in (5, -1, 11)], [True, False, False])

    def test_wrong_values_of_leak(self):
        rows, goals = (X + Y, Y), (X,)
        self.assertIs(shows_leak(rows, goals, 6, ((1,), (1, 5))), True)
        self.assertIs(shows_leak(rows, goals, 6, ((2,), (2, 4))), True)
        wrong = ANY + (
            ((1,),), ((1,), (1, 5), ()), [(1,), (1, 5)], ([1], (1, 5)), ((1,), [1, 5]), ((1,), (1,)), ((1,), (1, 5, 0)),
            ((), (1, 5)), ((1, 0), (1, 5)), ((1,), (1, -1)), ((7,), (1, 5)), ((1,), (7, 5)), ((1,), (1, 11)), (1, (1, 5)),
            ((1,), 1), ((0,), (0, 0)), ((1,), (1, 4)), ((1,), ("1", 5)), ((None,), (1, 5)), (((1,),), (1, 5)), (None, None),
            (None, (1, 5)), ((1,), None), X, rows, False, {1: 1},
        )
        for value in wrong:
            self.assertIs(shows_leak(rows, goals, 6, value), False, value)

    def test_wrong_values_where_nothing_is_told(self):
        rows, goals = (X + Y,), (X,)
        self.assertIs(shows_leak(rows, goals, 6, None), True)
        for value in (False, (), ((), ()), ((0,), (0,)), ((1,), (1,)), ((0,), (1,)), "None", 0, [], (None,)):
            self.assertIs(shows_leak(rows, goals, 6, value), False, value)

    def test_right_ones_of_other_goals_are_wrong(self):
        self.assertIs(shows_known(FOUR, 2 * X, 6, known(FOUR, X, 6)), False)
        self.assertIs(shows_known((2 * X,), X, 4, known(FOUR, X, 4)), False)
        self.assertIs(shows_known(FOUR, X, 12, known(FOUR, X, 6)), False)


class Guarantees(Checks):
    def test_more_rows(self):
        for dial in (4, 36, 360, 961, 10 ** 6):
            for rows, goals in ways.cases(400 + dial, 20, "abcdef", (1, 6, 9999), rows=6, goals=3):
                before = 1
                for many in range(len(rows) + 1):
                    now = known(rows[:many], goals[0], dial)[0]
                    self.assertEqual(now % before, 0)
                    before = now
                    if leak(rows[:many], goals, dial) is not None:
                        self.assertIsNotNone(leak(rows, goals, dial))

    def test_side_by_side(self):
        for one, other in ((2, 3), (4, 9), (8, 125), (961, 1000), (64, 15625), (30, 49), (997, 1000)):
            for rows, goals in ways.cases(one, 20, "abcde", (1, 6, 60, 9999), rows=5):
                apart = known(rows, goals[0], one)[0] * known(rows, goals[0], other)[0]
                self.assertEqual(known(rows, goals[0], one * other)[0], apart)

    def test_sums_of_sums(self):
        for dial in (4, 36, 360, 10 ** 6):
            for rows, goals in ways.cases(500 + dial, 20, "abcd", (1, 6, 60), rows=4, goals=2):
                one, other = goals[0], goals[-1]
                both = gcd(known(rows, one, dial)[0], known(rows, other, dial)[0])
                self.assertEqual(known(rows, one + other, dial)[0] % both, 0)
                self.assertEqual(known(rows, 5 * one, dial)[0] % known(rows, one, dial)[0], 0)

    def test_other_names(self):
        others = {"a": "zz", "b": "y", "c": "a", "d": "b"}
        for dial in (4, 36, 961, 10 ** 6):
            for rows, goals in ways.cases(600 + dial, 20, "abcd", (1, 6, 60), rows=4, goals=3):
                new_rows = tuple(renamed(row, others) for row in rows)
                new_goals = tuple(renamed(goal, others) for goal in goals)
                self.assertEqual(known(new_rows, new_goals[0], dial)[0], known(rows, goals[0], dial)[0])
                self.assertIs(leak(new_rows, new_goals, dial) is None, leak(rows, goals, dial) is None)


def renamed(total, others):
    """The Sum with other names."""
    return Sum(tuple(sorted((others[name], many) for name, many in total.parts)), total.number)


CALLS = ((known, X), (leak, (X,)), (shows_known, X), (shows_leak, (X,)))


def called(call, rows, goal, dial):
    """The call with these arguments, and any value for those that tell of one."""
    return call(rows, goal, dial) if call in (known, leak) else call(rows, goal, dial, None)


class Refused(Refusals):
    def test_rows(self):
        for call, goal in CALLS:
            for rows in NO_ROWS:
                self.refused(BadRows, rows, called, call, rows, goal, 6)

    def test_goals(self):
        for goal in NO_SUMS:
            self.refused(BadSum, goal, called, known, FOUR, goal, 6)
            self.refused(BadSum, goal, called, shows_known, FOUR, goal, 6)
        for goals in NO_GOALS:
            self.refused(BadSums, goals, called, leak, FOUR, goals, 6)
            self.refused(BadSums, goals, called, shows_leak, FOUR, goals, 6)

    def test_dials(self):
        for call, goal in CALLS:
            for dial in NO_DIALS:
                self.refused(BadDial, dial, called, call, FOUR, goal, dial)

    def test_bounds(self):
        for many in (9999, -9999):
            total = Sum((("a", many), ("x", 1)), 10 ** 12 - 1)
            for dial in (2, 10 ** 6):
                self.assertEqual(known((total,) * 12, total, dial)[0], dial)
                self.assertIsNotNone(leak((total,) * 12, (total,) * 4, dial))
                self.assertEqual(known((), total, dial)[0], 1)
                self.assertIsNone(leak((), (total,), dial))

    def test_the_first_one_is_refused(self):
        for wrong in (None, True, [X], "x", 0, (None,), {1: X}):
            self.refused(BadRows, wrong, known, wrong, wrong, wrong)
            self.refused(BadSum, wrong, known, FOUR, wrong, wrong)
            self.refused(BadDial, wrong, known, FOUR, X, wrong)
            self.refused(BadRows, wrong, known, dial=None, goal=None, rows=wrong)
            self.refused(BadRows, wrong, leak, wrong, wrong, wrong)
            self.refused(BadSums, wrong, leak, FOUR, wrong, wrong)
            self.refused(BadDial, wrong, leak, FOUR, (X,), wrong)
            self.refused(BadSums, wrong, leak, dial=None, goals=wrong, rows=())
            self.refused(BadRows, wrong, shows_known, wrong, wrong, wrong, wrong)
            self.refused(BadSum, wrong, shows_known, FOUR, wrong, wrong, wrong)
            self.refused(BadDial, wrong, shows_known, FOUR, X, wrong, wrong)
            self.refused(BadRows, wrong, shows_leak, wrong, wrong, wrong, wrong)
            self.refused(BadSums, wrong, shows_leak, FOUR, wrong, wrong, wrong)
            self.refused(BadDial, wrong, shows_leak, FOUR, (X,), wrong, wrong)

    def test_wrong_values_raise_nothing(self):
        for value in ANY + NO_ROWS + NO_SUMS + NO_DIALS:
            self.assertIs(shows_known(FOUR, X, 6, value), False)
            self.assertIs(shows_leak(FOUR, (X,), 6, value), False)


class Calls(Refusals):
    def test_arguments_by_name(self):
        self.assertEqual(known(rows=FOUR, goal=X, dial=6), known(FOUR, X, 6))
        self.assertEqual(leak(dial=6, goals=(X,), rows=FOUR), leak(FOUR, (X,), 6))
        self.assertIs(shows_known(value=known(FOUR, X, 6), rows=FOUR, goal=X, dial=6), True)
        self.assertIs(shows_leak(value=leak(FOUR, (X,), 6), rows=FOUR, goals=(X,), dial=6), True)

    def test_equal_calls(self):
        for rows, goals in ways.cases(7, 30, "abcdef", (9, 9999), rows=6, goals=4):
            copies = tuple(Sum.of(row.text) for row in rows), tuple(Sum.of(goal.text) for goal in goals)
            self.assertEqual(known(rows, goals[0], 720), known(copies[0], copies[1][0], 720))
            self.assertEqual(leak(rows, goals, 720), leak(copies[0], copies[1], 720))
