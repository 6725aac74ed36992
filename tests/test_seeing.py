"""Section 12: what was seen."""

import random
import unittest
from itertools import product
from math import gcd

from dialsums.dials import Dials
from dialsums.errors import BadDial, BadSeen, BadSum, NoFit, TooGreat
from dialsums.plans import Plan
from dialsums.playing import played, sources
from dialsums.seeing import could, fitting, shows_could
from dialsums.sums import Sum
from tests import great, shared
from tests.samples import ANY, NO_NAMES, Refusals
from tests.test_groups import NO_GOALS, PLAN
from tests.test_telling import NO_DIALS

TWICE = Plan("people ann ben\nown ann x\nsum ann d = 5 x\ncall ann x\ncall ann d")
X, R = Sum.of("x"), Sum.of("r")
GREATEST = 10 ** 9

NO_SEEN = tuple(value for value in ANY if value != () and value != (("x", 1),)) + (
    [("x", 1)], (["x", 1],), ("x", 1), (("x",),), (("x", 1, 1),), (("x", 1000),), (("x", -1),), (("x", 10 ** 12),),
    (("x", True),), (("x", None),), (("x", "1"),), (("y", 1),), (("ann", 1),), (("", 1),), ((None, 1),), ((1, "x"),),
    (("x", 1), ("x", 1)), (("x", 1), ("x", 2)), (("x", 1), ("r", 2)), (("q", 1), ("p", 1)), (("p", 1), ("z", 1)),
    (("p", 1), None), (("p", 1), ()), {"x": 1}, {("x", 1): True}, (((("x",),), 1),), ((["x"], 1),), (X, 1), ((X, 1),), PLAN,
    (("p", 1), ["x", 1]), "x", "x1",
)


def ways(plan, notes, dial):
    """All numbers that fit, one by one."""
    for numbers in product(range(dial), repeat=len(sources(plan))):
        values = dict(played(plan, dial, numbers))
        if all(values[note] == number for note, number in notes):
            yield numbers


def some_seen(source, plan):
    """Random notes seen, most often such as can be seen on some dial."""
    picked = sorted(source.sample(plan.notes, source.randint(0, min(4, len(plan.notes)))))
    dial = source.choice((2, 3, 6, 10, 12, 30))
    values = dict(played(plan, dial, tuple(source.randrange(dial) for _ in sources(plan))))
    if source.randrange(3) == 0:
        return tuple((note, source.randrange(source.choice((1, 3, 12, 20)))) for note in picked)
    return tuple((note, values[note]) for note in picked)


def value_of(plan, goal, numbers):
    """What the goal comes to."""
    values = dict(zip(sources(plan), numbers))
    return sum(many * values[name] for name, many in goal.parts) + goal.number


class Checks(Refusals):
    def too_great(self, call, *arguments):
        with self.assertRaises(TooGreat) as held:
            call(*arguments)
        self.assertEqual(held.exception.value, GREATEST)

    def right(self, plan, notes, goal, dial):
        """What could tells is right, but for whether the part is the greatest; returns it."""
        made = could(plan, notes, goal, dial)
        self.assertIs(made.__class__, tuple)
        rest, part, numbers = made
        self.assertEqual([value.__class__ for value in made], [int, int, tuple])
        self.assertTrue(dial % part == 0 and 0 <= rest < part)
        values = dict(played(plan, dial, numbers))
        self.assertEqual([values[note] for note, number in notes], [number for note, number in notes])
        self.assertEqual(value_of(plan, goal, numbers) % part, rest)
        self.assertIs(shows_could(plan, notes, goal, dial, made), True)
        return made


class Fitting(Checks):
    def test_by_all_ways(self):
        source = random.Random(1)
        endless = 0
        for plan in shared.plans(21, 250, crowd=3, owns=2, draws=1, sums=5):
            notes = some_seen(source, plan)
            made = fitting(plan, notes)
            endless += made.is_endless
            self.assertIs(made.__class__, Dials)
            for dial in range(2, {1: 40, 2: 16, 3: 8}[len(sources(plan))]):
                expected = any(True for numbers in ways(plan, notes, dial))
                self.assertIs(dial in made, expected, (plan.text, notes, dial))
        self.assertTrue(50 < endless < 200)

    def test_some_sets(self):
        for plan, notes, text in (
            (TWICE, (("d", 2), ("x", 4)), "1 : - : 6 9 18"), (TWICE, (("d", 3), ("x", 0)), "1 : - : -"),
            (TWICE, (("d", 0),), "1 : 1 : -"), (TWICE, (), "1 : 1 : -"), (TWICE, (("d", 3),), "5 : 1 : 2 3"),
            (TWICE, (("x", 3),), "1 : 1 : 2 3"), (TWICE, (("d", 0), ("x", 0)), "1 : 1 : -"), (PLAN, (("x", 0),), "1 : 1 : -"),
            (TWICE, (("d", 5), ("x", 1)), "1 : 1 : 2 3 4 5"), (TWICE, (("d", 1), ("x", 5)), "1 : - : 6 8 12 24"),
            (PLAN, (("p", 1), ("q", 3), ("x", 0)), "1 : - : -"), (PLAN, (("p", 3), ("x", 0)), "2 : 1 : 3"),
            (Plan("people ann"), (), "1 : 1 : -"),
        ):
            self.assertEqual(fitting(plan, notes).text, text, notes)

    def test_numbers_beside_count(self):
        plan = Plan("people ann\nsum ann a = 7\nsum ann b = -1\nown ann x\nsum ann c = 3 x - 5")
        for notes, text in (
            ((("a", 7),), "1 : 1 : 2 3 4 5 6 7"), ((("a", 0),), "1 : - : 7"), ((("a", 1),), "1 : - : 2 3 6"),
            ((("a", 2),), "1 : - : 5"), ((("a", 3),), "1 : - : 4"), ((("a", 8),), "1 : - : -"), ((("b", 0),), "1 : - : -"),
            ((("b", 9),), "1 : - : 10"), ((("b", 999),), "1 : - : 1000"), ((("c", 0), ("x", 0)), "1 : - : 5"),
            ((("c", 1),), "1 : 1 : -"), ((("c", 2),), "3 : 1 : 2"), ((("a", 4), ("b", 2)), "1 : - : -"),
        ):
            self.assertEqual(fitting(plan, notes).text, text, notes)

    def test_numbers_0_and_999(self):
        self.assertEqual(fitting(TWICE, (("x", 999),)), Dials(1, (1,), tuple(range(2, 1000))))
        self.assertEqual(fitting(TWICE, (("d", 999), ("x", 999))).text, "1 : - : 1332 1998 3996")
        self.assertEqual(fitting(TWICE, (("d", 0), ("x", 999))).text, "1 : - : 1665 4995")
        self.assertIs(999 in fitting(TWICE, (("x", 998),)), True)
        self.assertIs(999 in fitting(TWICE, (("x", 999),)), False)

    def test_sets_that_are_too_great(self):
        plan = great.chained(811, 809, 797)
        whole = 811 * 809 * 797
        zeros = (("u", 0), ("v", 0), ("w", 0))
        self.assertEqual(fitting(plan, zeros + (("x", 1),)), Dials(1, (), tuple(dial for dial in (
            797, 809, 811, 797 * 809, 797 * 811, 809 * 811, whole))))
        self.too_great(fitting, plan, zeros + (("x", 2),))
        self.too_great(fitting, plan, zeros + (("x", 999),))
        self.too_great(fitting, plan, (("u", 0), ("v", 0), ("w", 1), ("x", 900)))

    def test_great_numbers_on_the_way_only(self):
        plan = great.chained(811, 809, 797)
        zeros = (("u", 0), ("v", 0), ("w", 0))
        self.assertEqual(fitting(plan, zeros).text, "1 : 1 : -")
        self.assertEqual(fitting(plan, zeros + (("x", 0),)).text, "1 : 1 : -")
        self.assertEqual(fitting(plan, zeros[:2] + (("w", 1),)).text, f"{811 * 809 * 797} : 1 : -")
        # All of it as it comes without any dial: r is 5 - 811 x, and so on.
        self.assertEqual(fitting(plan, (("u", 5), ("x", 0))).text, "1 : 1 : 2 3 4 5")
        for third in (1, 2):
            other = great.chained(720, 700, third)
            self.assertEqual(fitting(other, (("u", 0), ("v", 0), ("w", 0), ("x", 1))).others[-1], 720 * 700 * third)


class Could(Checks):
    def test_by_all_ways(self):
        source = random.Random(2)
        shown = 0
        for plan in shared.plans(22, 120, crowd=3, owns=2, draws=1, sums=5):
            notes = some_seen(source, plan)
            goal = shared.some_goal(source, sources(plan))
            for dial in range(2, {1: 30, 2: 13, 3: 7}[len(sources(plan))]):
                fits = list(ways(plan, notes, dial))
                if not fits:
                    self.refused(NoFit, dial, could, plan, notes, goal, dial)
                    self.refused(NoFit, dial, shows_could, plan, notes, goal, dial, None)
                    continue
                shown += 1
                values = [value_of(plan, goal, numbers) for numbers in fits]
                part = gcd(dial, *(value - values[0] for value in values))
                rest, made, numbers = self.right(plan, notes, goal, dial)
                self.assertEqual((rest, made), (values[0] % part, part), (plan.text, notes, goal.text, dial))
                for numbers in product(range(dial), repeat=len(sources(plan))) if dial < 5 else fits[:20]:
                    made = shows_could(plan, notes, goal, dial, (rest, part, numbers))
                    self.assertIs(made, numbers in fits)
        self.assertGreater(shown, 300)

    def test_great_dials(self):
        source = random.Random(3)
        for plan in shared.plans(23, 60, crowd=4, owns=4, draws=4, sums=4):
            for dial in (997, 720720, 10 ** 6, 2 ** 19, 961 ** 2):
                values = dict(played(plan, dial, tuple(source.randrange(dial) for _ in sources(plan))))
                notes = tuple((note, values[note]) for note in sorted(plan.notes) if values[note] < 1000)
                self.right(plan, notes, shared.some_goal(source, sources(plan), most=9999), dial)
                self.assertIs(dial in fitting(plan, notes), True)

    def test_some(self):
        self.assertEqual(could(PLAN, (("p", 5),), X, 10)[:2], (1, 2))
        self.assertEqual(could(PLAN, (("p", 5), ("q", 5)), X, 10)[:2], (5, 10))
        self.assertEqual(could(TWICE, (("d", 2), ("x", 4)), X, 6), (4, 6, (4,)))
        self.assertEqual(could(TWICE, (("d", 0),), X, 10)[:2], (0, 2))
        self.assertEqual(could(TWICE, (("d", 5),), 2 * X + 1, 10)[:2], (1, 2))
        self.assertEqual(could(Plan("people ann"), (), Sum((), 7), 5), (2, 5, ()))

    def test_goals_without_names(self):
        for number in (0, 5, -1, 10 ** 12, -10 ** 12):
            rest, part, numbers = self.right(PLAN, (("p", 5),), Sum((), number), 10)
            self.assertEqual((rest, part), (number % 10, 10))

    def test_what_is_known_anyway(self):
        self.assertEqual(could(PLAN, (), 6 * X + 1, 12)[:2], (1, 6))
        self.assertEqual(could(PLAN, (), X, 12)[:2], (0, 1))

    def test_bounds(self):
        for many in (9999, -9999):
            self.right(PLAN, (("p", 5), ("x", 3)), many * X - many * R, 10 ** 6)
        self.assertEqual(could(PLAN, (("x", 999),), X, 1000)[:2], (999, 1000))
        self.assertEqual(could(PLAN, (("x", 0),), X, 2)[:2], (0, 2))

    def test_dials_at_or_below_a_number_seen(self):
        for number in (2, 3, 10, 999):
            for dial in range(2, number + 1):
                if dial < 20 or dial > 990:
                    self.refused(NoFit, dial, could, PLAN, (("x", number),), X, dial)
                    self.assertIs(dial in fitting(PLAN, (("x", number),)), False)
            self.assertEqual(could(PLAN, (("x", number),), X, number + 1)[:2], (number, number + 1))
            self.assertIs(number + 1 in fitting(PLAN, (("x", number),)), True)

    def test_wrong_values(self):
        notes = (("p", 5),)
        rest, part, numbers = could(PLAN, notes, X, 10)
        for value in ((1, 2, (1, 2)), (1, 2, (5, 5)), (1, 2, (5, 0)), (1, 2, (9, 3))):
            self.assertIs(shows_could(PLAN, notes, X, 10, value), True)
        for value in ANY + (
            [1, 2, (5, 0)], (1, 2), (1, 2, (5, 0), 1), (1, 2, [5, 0]), (1, 2, (5,)), (1, 2, (5, 0, 0)), (1, 2, (5, 1)), (0, 2, (5, 0)),
            (1, 1, (5, 0)), (0, 1, (5, 0)), (5, 10, (5, 0)), (0, 5, (5, 0)), (True, 2, (5, 0)), (1, True, (5, 0)), (1, 2, (5, False)),
            (3, 2, (5, 0)), (-1, 2, (5, 0)), (1, -2, (5, 0)), (1, 2, (5, 10)), (1, 2, (15, 0)), (1, 2, (-5, 0)), (1, 2, ("5", 0)),
            (1, 2, None), (None, 2, (5, 0)), (1, None, (5, 0)), ("1", 2, (5, 0)), ((1,), 2, (5, 0)), (1, 2, {"x": 5, "r": 0}),
            (1, 2, (("x", 5), ("r", 0))), PLAN, X,
        ):
            self.assertIs(shows_could(PLAN, notes, X, 10, value), False, value)

    def test_true_is_no_rest_and_no_number(self):
        self.assertIs(shows_could(TWICE, (("x", 1),), X, 2, (1, 2, (1,))), True)
        self.assertIs(shows_could(TWICE, (("x", 1),), X, 2, (True, 2, (1,))), False)
        self.assertIs(shows_could(TWICE, (("x", 1),), X, 2, (1, 2, (True,))), False)
        self.assertIs(shows_could(TWICE, (), X, 2, (0, 1, (1,))), True)
        self.assertIs(shows_could(TWICE, (), X, 2, (False, 1, (1,))), False)
        self.assertIs(shows_could(TWICE, (), X, 2, (0, True, (1,))), False)


class Refused(Refusals):
    def test_seen(self):
        for notes in NO_SEEN:
            self.refused(BadSeen, notes, fitting, PLAN, notes)
            self.refused(BadSeen, notes, could, PLAN, notes, X, 10)
            self.refused(BadSeen, notes, shows_could, PLAN, notes, X, 10, None)
        for note in NO_NAMES:
            notes = ((note, 1),)
            self.refused(BadSeen, notes, fitting, PLAN, notes)

    def test_goals(self):
        for goal in NO_GOALS:
            self.refused(BadSum, goal, could, PLAN, (("p", 5),), goal, 10)
            self.refused(BadSum, goal, shows_could, PLAN, (("p", 5),), goal, 10, None)

    def test_dials(self):
        for dial in NO_DIALS:
            self.refused(BadDial, dial, could, PLAN, (("p", 5),), X, dial)
            self.refused(BadDial, dial, shows_could, PLAN, (("p", 5),), X, dial, None)

    def test_the_first_one_is_refused(self):
        for wrong in (None, True, ["x"], "x", -1, (None,)):
            self.refused(BadSeen, wrong, could, PLAN, wrong, wrong, wrong)
            self.refused(BadSum, wrong, could, PLAN, (("x", 999),), wrong, wrong)
            self.refused(BadDial, wrong, could, PLAN, (("x", 999),), X, wrong)
            self.refused(BadSeen, wrong, shows_could, PLAN, wrong, wrong, wrong, wrong)
            self.refused(BadSum, wrong, shows_could, PLAN, (("x", 999),), wrong, wrong, wrong)
            self.refused(BadDial, wrong, shows_could, PLAN, (("x", 999),), X, wrong, wrong)
            self.refused(NoFit, 6, shows_could, PLAN, (("x", 999),), X, 6, wrong)
        self.refused(BadSum, None, could, PLAN, (("x", 999),), None, 10)

    def test_arguments_by_name(self):
        notes = (("p", 5),)
        self.assertEqual(fitting(notes=notes, plan=PLAN), fitting(PLAN, notes))
        made = could(dial=10, goal=X, notes=notes, plan=PLAN)
        self.assertEqual(made, could(PLAN, notes, X, 10))
        self.assertIs(shows_could(value=made, dial=10, goal=X, notes=notes, plan=PLAN), True)


class Guarantees(Checks):
    def test_more_seen(self):
        source = random.Random(4)
        for plan in shared.plans(24, 60):
            dial = source.choice((6, 12, 30, 360))
            values = played(plan, dial, tuple(source.randrange(dial) for _ in sources(plan)))
            goal = shared.some_goal(source, sources(plan))
            before, dials = 1, Dials(1, (1,))
            for many in range(len(values) + 1):
                notes = tuple(sorted(values[:many]))
                rest, part, numbers = self.right(plan, notes, goal, dial)
                self.assertEqual(part % before, 0)
                made = fitting(plan, notes)
                self.assertLessEqual(made, dials)
                before, dials = part, made

    def test_other_names(self):
        source = random.Random(5)
        for plan in shared.plans(25, 40, sums=4):
            names = shared.other_names(plan.people + plan.notes)
            other = Plan(shared.renamed_text(plan.text, names))
            notes = some_seen(source, plan)
            goal = shared.some_goal(source, sources(plan))
            seen = tuple(sorted((names[note], number) for note, number in notes))
            made = fitting(plan, notes)
            self.assertEqual(fitting(other, seen), made)
            for dial in range(2, 12):
                if dial in made:
                    expected = could(plan, notes, goal, dial)[:2]
                    self.assertEqual(could(other, seen, shared.renamed(goal, names), dial)[:2], expected)
                else:
                    self.refused(NoFit, dial, could, other, seen, shared.renamed(goal, names), dial)


if __name__ == "__main__":
    unittest.main()
