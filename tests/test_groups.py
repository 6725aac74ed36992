"""Section 10: groups."""

import random
import unittest

from dialsums.dials import Dials
from dialsums.errors import BadBy, BadDial, BadFew, BadSum, TooGreat
from dialsums.groups import classes, knowers, strangers
from dialsums.plans import Plan
from dialsums.playing import sources
from dialsums.spreading import hidden, told
from dialsums.sums import Sum
from dialsums.telling import known, leak
from tests import great, shared
from tests.samples import ANY, NO_INTEGERS, Refusals
from tests.test_plans import NO_BYS, groups
from tests.test_telling import NO_DIALS, NO_SUMS

PLAN = Plan(
    "people ann ben cy\nown ann x\ndraw ann r\nsum ann p = 2 r + x\nhand ann ben p\nsum ann q = 4 r + x\nhand ann cy q\n"
    "burn ann r"
)
X, R = Sum.of("x"), Sum.of("r")
ALONE = Plan("people ann\nown ann x\ndraw ann r\nburn ann x")
FOUR = Plan(
    "people dan cy ben ann\nown dan x\nown cy y\nown ben u\nown ann v\nhand dan ann x\nhand cy ann y\nhand ben ann u\n"
    "hand ben dan u\nburn ann v"
)
GREATEST = 10 ** 9

# Sums that are no goals of PLAN: notes that are reckoned, people, names that are none, integers that are too great.
NO_GOALS = NO_SUMS + (
    Sum.of("p"), Sum.of("q"), Sum.of("p + x"), Sum.of("x + y"), Sum.of("ann"), Sum.of("ben + x"), Sum.of("z"),
    Sum((("r", 10000),)), Sum((("x", -10000),)), Sum((("r", 1), ("x", 10 ** 12))), PLAN, (X, R), ("x",),
)


def least(groups_told):
    """Those of the groups that have no lesser one within them, ascending."""
    return tuple(sorted(one for one in groups_told if not any(set(other) < set(one) for other in groups_told)))


def by_known(plan, goal, dial, by):
    """What knowers must tell, by known of all groups."""
    rows = {group: plan.rows(group, by=by) for group in groups(plan.people)}
    return least([group for group in rows if known(rows[group], goal, dial)[0] == dial])


def are_strangers(plan, goal, few, dial, by):
    """Whether nothing of the goal is shown to any group of so few people who own no number of it."""
    owners = {person for person, note in plan.owns if note in goal.names}
    small = [group for group in groups(plan.people) if len(group) <= few and not owners & set(group)]
    return all(leak(plan.rows(group, by=by), (goal,), dial) is None for group in small)


class Checks(Refusals):
    def too_great(self, call, *arguments, **named):
        with self.assertRaises(TooGreat) as held:
            call(*arguments, **named)
        self.assertEqual(held.exception.value, GREATEST)
        self.assertIs(held.exception.value.__class__, int)

    def are_groups(self, made, plan):
        """It is an ascending tuple of groups, none of them within another one."""
        self.assertIs(made.__class__, tuple)
        self.assertEqual(list(made), sorted(set(made)))
        for group in made:
            self.assertIs(group.__class__, tuple)
            self.assertEqual(list(group), sorted(set(group)))
            self.assertTrue(set(group) <= set(plan.people))
            self.assertFalse([other for other in made if set(other) < set(group)])


class Knowers(Checks):
    def test_by_known_of_all_groups(self):
        source = random.Random(1)
        for plan in shared.plans(1, 120):
            goal = shared.some_goal(source, sources(plan))
            for dial in (2, 3, 4, 6, 9, 10, 97, 360, 10 ** 6):
                for by in ("saw", "has"):
                    made = knowers(plan, goal, dial, by=by)
                    self.assertEqual(made, by_known(plan, goal, dial, by), (plan.text, goal.text, dial, by))
                    self.are_groups(made, plan)

    def test_by_is_saw_if_it_is_left_out(self):
        self.assertEqual(knowers(PLAN, R, 7), (("ann",), ("ben", "cy")))
        self.assertEqual(knowers(PLAN, R, 7, by="saw"), (("ann",), ("ben", "cy")))
        # Of r itself ann has no note any more, but what she reckoned is enough on odd dials.
        self.assertEqual(knowers(PLAN, R, 7, by="has"), (("ann",), ("ben", "cy")))
        self.assertEqual(knowers(PLAN, R, 6, by="has"), ())
        self.assertEqual(knowers(PLAN, R, 6), (("ann",),))

    def test_told_anyway_and_told_to_nobody(self):
        self.assertEqual(knowers(PLAN, 6 * X, 6), ((),))
        self.assertEqual(knowers(PLAN, 6 * X + 1, 12), (("ann",), ("ben",), ("cy",)))
        self.assertEqual(knowers(PLAN, Sum(), 2), ((),))
        self.assertEqual(knowers(PLAN, Sum((), -7), 10 ** 6), ((),))
        self.assertEqual(knowers(ALONE, X, 2, by="has"), ())
        self.assertEqual(knowers(ALONE, 2 * X, 2, by="has"), ((),))
        self.assertEqual(knowers(ALONE, X, 2), (("ann",),))

    def test_four_people_in_another_sequence(self):
        total = Sum.of("u + v + x + y")
        self.assertEqual(knowers(FOUR, total, 5), (("ann",),))
        self.assertEqual(knowers(FOUR, total, 5, by="has"), ())
        self.assertEqual(knowers(FOUR, Sum.of("u + x + y"), 5), (("ann",), ("cy", "dan")))
        self.assertEqual(knowers(FOUR, Sum.of("u + x"), 5), (("ann",), ("dan",)))
        self.assertEqual(knowers(FOUR, Sum.of("u + y"), 5), (("ann",), ("ben", "cy"), ("cy", "dan")))

    def test_bounds(self):
        for many in (9999, -9999):
            self.assertEqual(knowers(PLAN, many * X, 9999), ((),))
            self.assertEqual(knowers(PLAN, many * X + 10 ** 12, 10 ** 6), (("ann",), ("ben", "cy")))
        self.assertEqual(knowers(PLAN, X, 2), (("ann",), ("ben",), ("cy",)))
        self.assertEqual(knowers(PLAN, X, 10 ** 6), (("ann",), ("ben", "cy")))


class Classes(Checks):
    def right(self, plan, goal, by, dials):
        """The classes are right on these dials, and as section 10 tells of them."""
        made = classes(plan, goal, by=by)
        self.assertIs(made.__class__, tuple)
        for pair in made:
            self.assertEqual((pair.__class__, len(pair), pair[0].__class__), (tuple, 2, Dials))
            self.assertIs(pair[0].is_empty, False)
            self.are_groups(pair[1], plan)
        firsts = [one.after(1) for one, told_to in made]
        self.assertEqual(firsts, sorted(set(firsts)))
        self.assertEqual(len({told_to for one, told_to in made}), len(made))
        for dial in dials:
            found = [told_to for one, told_to in made if dial in one]
            self.assertEqual(found, [by_known(plan, goal, dial, by)], (plan.text, goal.text, by, dial))
        return made

    def test_dial_by_dial(self):
        source = random.Random(2)
        for plan in shared.plans(2, 60):
            goal = shared.some_goal(source, sources(plan))
            self.right(plan, goal, source.choice(("saw", "has")), list(range(2, 50)) + [64, 81, 100, 128, 210, 243])

    def test_the_sets_part_all_dials(self):
        source = random.Random(3)
        for plan in shared.plans(3, 60):
            made = classes(plan, shared.some_goal(source, sources(plan), most=20))
            every = Dials(1, ())
            for dials, told_to in made:
                self.assertTrue((every & dials).is_empty)
                every = every | dials
            self.assertEqual(every, Dials(1, (1,)))

    def test_some_classes(self):
        multiples = great.to_each([{"x": 2}, {"x": 3}, {"x": 4}])
        dealt = great.to_each([{"x": 1, "r": 4}, {"x": 1, "r": 9}, {"x": 1, "r": 6}], "r")
        dan = ("dan",)
        cases = (
            (PLAN, 2 * R, "saw", [("1 : - : 2", ((),)), ("1 : 1 : 2", (("ann",), ("ben", "cy")))]),
            (PLAN, Sum(), "saw", [("1 : 1 : -", ((),))]),
            (PLAN, Sum((), 10 ** 12), "has", [("1 : 1 : -", ((),))]),
            (PLAN, X, "saw", [
                ("1 : - : 2", (("ann",), ("ben",), ("cy",))), ("1 : 1 : 2 4", (("ann",), ("ben", "cy"))),
                ("1 : - : 4", (("ann",), ("cy",))),
            ]),
            (PLAN, R, "saw", [("2 : 2 : -", (("ann",),)), ("2 : 1 : -", (("ann",), ("ben", "cy")))]),
            (PLAN, R, "has", [("2 : 2 : -", ()), ("2 : 1 : -", (("ann",), ("ben", "cy")))]),
            (PLAN, 2 * X, "saw", [
                ("1 : - : 2", ((),)), ("1 : 1 : 2 4 8", (("ann",), ("ben", "cy"))),
                ("1 : - : 4", (("ann",), ("ben",), ("cy",))), ("1 : - : 8", (("ann",), ("cy",))),
            ]),
            (ALONE, 6 * X, "saw", [("1 : - : 2 3 6", ((),)), ("1 : 1 : 2 3 6", (("ann",),))]),
            (ALONE, 6 * X, "has", [("1 : - : 2 3 6", ((),)), ("1 : 1 : 2 3 6", ())]),
            (multiples, X, "saw", [
                ("6 : 2 : -", (("ben",), dan)), ("6 : 3 : -", (("ann",), ("cy",), dan)),
                ("6 : 1 : -", (("ann",), ("ben",), ("cy",), dan)), ("6 : 6 : -", (("ann", "ben"), ("ben", "cy"), dan)),
            ]),
            (dealt, 2 * X, "saw", [
                ("1 : - : 2", ((),)), ("1 : - : 3 6", (("ben",), ("cy",), dan)), ("1 : - : 4", (("ann",), ("cy",), dan)),
                ("5 : 5 : -", (("ann", "cy"), ("ben", "cy"), dan)),
                ("5 : 1 : 2 3 4 6 8 9 12 18", (("ann", "ben"), ("ann", "cy"), ("ben", "cy"), dan)),
                ("1 : - : 8", (("ann",), ("ben", "cy"), dan)), ("1 : - : 9 18", (("ann", "cy"), ("ben",), dan)),
                ("1 : - : 12", (("ann", "ben"), ("cy",), dan)),
            ]),
        )
        for plan, goal, by, expected in cases:
            made = self.right(plan, goal, by, list(range(2, 60)) + [120, 144])
            self.assertEqual([(dials.text, told_to) for dials, told_to in made], expected)

    def test_cells_of_three_primes(self):
        """No set that told tells is great, but that in which each of the primes matters."""
        made = classes(great.to_each([{"x": number} for number in great.LOW]), X)
        self.assertEqual(len(made), 8)
        whole = great.LOW[0] * great.LOW[1] * great.LOW[2]
        for dials, told_to in made:
            self.assertEqual((dials.whole, len(dials.shares), dials.others), (whole, 1, ()))
        self.assertEqual(made[-1][0].shares, (whole,))
        self.assertEqual(made[-1][1], (("ann", "ben"), ("ann", "cy"), ("ben", "cy"), ("dan",)))
        plan = great.to_each([{"x": number} for number in great.HIGH])
        for group in groups(plan.people):
            self.assertLessEqual(told(plan.rows(group), X).whole, GREATEST)
        self.too_great(classes, plan, X)
        self.too_great(classes, plan, X, by="has")
        # The same primes do not matter where the goal is a multiple of them all the same.
        self.assertEqual([one.text for one, told_to in classes(plan, Sum((), 1))], ["1 : 1 : -"])

    def test_one_set_that_told_tells_is_too_great(self):
        plan = great.shown(({"x": 1, "r": 811}, {"r": 1, "s": 809}))
        for many in (1, 2, 1000, 1523, 1524):
            made = classes(plan, many * X)
            self.assertEqual([told_to for dials, told_to in made if dials.is_endless], [(("ann",),)])
            self.assertEqual(max(other for dials, told_to in made for other in dials.others), many * 811 * 809)
        for many in (1525, 9999, -9973):
            self.too_great(classes, plan, many * X)
            self.too_great(told, plan.rows(("ben",)), many * X)

    def test_great_numbers_on_the_way_only(self):
        # Ben knows 522910903 times x.
        plan = great.chained(811, 809, 797)
        for many, whole in ((1, 811 * 809 * 797), (811, 809 * 797), (809, 811 * 797), (1622, 809 * 797)):
            made = [(one.whole, told_to) for one, told_to in classes(plan, many * X) if one.is_endless]
            self.assertEqual(sorted(made), [(whole, (("ann",),)), (whole, (("ann",), ("ben",)))])


class Strangers(Checks):
    def test_dial_by_dial(self):
        source = random.Random(4)
        for plan in shared.plans(4, 80):
            goal = shared.some_goal(source, sources(plan))
            by = source.choice(("saw", "has"))
            before = Dials(1, (1,))
            for few in range(5):
                made = strangers(plan, goal, few, by=by)
                self.assertIs(made.__class__, Dials)
                for dial in range(2, 25):
                    self.assertIs(dial in made, are_strangers(plan, goal, few, dial, by), (plan.text, goal.text, few, dial))
                self.assertLessEqual(made, before)
                before = made

    def test_some_sets(self):
        self.assertEqual([strangers(PLAN, X, few).text for few in range(5)], ["1 : 1 : -", "2 : 1 : -"] + ["1 : - : -"] * 3)
        self.assertEqual([strangers(PLAN, X, few, by="has").text for few in range(3)], ["1 : 1 : -", "2 : 1 : -", "1 : - : -"])
        self.assertEqual(strangers(PLAN, Sum(), 4).text, "1 : 1 : -")

    def test_owners_are_left_out_and_drawers_are_not(self):
        # Ann owns x and drew r.
        plan = Plan("people ann ben\nown ann x\nown ben y\ndraw ann r\ndraw ben s")
        self.assertEqual(strangers(plan, X, 4).text, "1 : 1 : -")
        self.assertEqual(strangers(plan, R, 4).text, "1 : - : -")
        self.assertEqual(strangers(plan, X + R, 4).text, "1 : 1 : -")
        self.assertEqual(strangers(plan, Sum.of("x + y"), 4).text, "1 : 1 : -")
        self.assertEqual(strangers(plan, Sum.of("s + x"), 4).text, "1 : 1 : -")
        self.assertEqual(strangers(plan, Sum.of("r + s"), 1).text, "1 : 1 : -")
        self.assertEqual(strangers(plan, Sum.of("r + s"), 2).text, "1 : - : -")
        self.assertEqual(strangers(plan, Sum.of("6 s"), 1).text, "1 : - : 2 3 6")
        self.assertEqual(strangers(plan, Sum.of("6 s"), 0).text, "1 : 1 : -")

    def test_sets_of_single_groups_that_are_too_great(self):
        plan = great.chained(811, 809, 797)
        self.assertEqual(strangers(plan, X, 1).others[-1], 811 * 809 * 797)
        for many in (2, 7, 9999):
            self.too_great(strangers, plan, many * X, 1)
            self.too_great(strangers, plan, many * X, 4)
            self.too_great(hidden, plan.rows(("ben",)), (many * X,))
            self.assertEqual(strangers(plan, many * X, 0).text, "1 : 1 : -")

    def test_the_set_that_comes_is_too_great(self):
        for primes, is_great in ((great.LOW, False), (great.HIGH, True)):
            plan = great.to_each([{"x": 1, "r": prime} for prime in primes], "r")
            for person, prime in zip(("ann", "ben", "cy"), primes):
                self.assertEqual(hidden(plan.rows((person,)), (X,)).text, f"{prime} : 1 : -")
            if is_great:
                self.too_great(strangers, plan, X, 1)
            else:
                self.assertEqual(strangers(plan, X, 1).text, f"{primes[0] * primes[1] * primes[2]} : 1 : -")
            # To two of them something is told on all dials but a few: great primes are on the way only.
            self.assertEqual(strangers(plan, X, 2).text, "1 : - : 2")
            self.assertEqual(strangers(plan, X, 0).text, "1 : 1 : -")

    def test_few_more_see_more(self):
        self.assertEqual(strangers(FOUR, Sum.of("x"), 1).text, "1 : - : -")
        self.assertEqual(strangers(FOUR, Sum.of("v"), 4).text, "1 : 1 : -")
        plan = Plan("people ann ben cy dan\nown ann x\ndraw ann r\nsum ann a = r + x\nhand ann ben a\nhand ann cy r\nhand ann dan r")
        self.assertEqual([strangers(plan, X, few).text for few in range(5)], ["1 : 1 : -"] * 2 + ["1 : - : -"] * 3)


class Refused(Refusals):
    def test_goals(self):
        for goal in NO_GOALS:
            self.refused(BadSum, goal, knowers, PLAN, goal, 6)
            self.refused(BadSum, goal, classes, PLAN, goal)
            self.refused(BadSum, goal, strangers, PLAN, goal, 2)

    def test_right_goals(self):
        for goal in (X, R, X - R + 10 ** 12, Sum((("r", -9999), ("x", 9999))), Sum()):
            self.assertEqual(len(knowers(PLAN, goal, 6)[0:1]), 1)
            self.assertGreaterEqual(len(classes(PLAN, goal)), 1)
            self.assertIs(strangers(PLAN, goal, 0).__class__, Dials)

    def test_dials(self):
        for dial in NO_DIALS:
            self.refused(BadDial, dial, knowers, PLAN, X, dial)

    def test_few(self):
        for few in NO_INTEGERS + (-1, 5, 10 ** 12, "0", (0,), PLAN):
            self.refused(BadFew, few, strangers, PLAN, X, few)

    def test_by(self):
        for by in NO_BYS:
            self.refused(BadBy, by, knowers, PLAN, X, 6, by=by)
            self.refused(BadBy, by, classes, PLAN, X, by=by)
            self.refused(BadBy, by, strangers, PLAN, X, 1, by=by)
        for call, arguments in ((knowers, (PLAN, X, 6)), (classes, (PLAN, X)), (strangers, (PLAN, X, 1))):
            self.assertRaises(TypeError, call, *arguments, "saw")

    def test_the_first_one_is_refused(self):
        for wrong in (None, True, ["x"], "saw?", -1, [X]):
            self.refused(BadSum, wrong, knowers, PLAN, wrong, wrong, by=wrong)
            self.refused(BadDial, wrong, knowers, PLAN, X, wrong, by=wrong)
            self.refused(BadBy, wrong, knowers, PLAN, X, 6, by=wrong)
            self.refused(BadSum, wrong, knowers, by=None, dial=None, goal=wrong, plan=PLAN)
            self.refused(BadSum, wrong, classes, PLAN, wrong, by=wrong)
            self.refused(BadSum, wrong, strangers, PLAN, wrong, wrong, by=wrong)
            self.refused(BadFew, wrong, strangers, PLAN, X, wrong, by=wrong)
            self.refused(BadBy, wrong, strangers, PLAN, X, 1, by=wrong)

    def test_what_is_too_great_comes_last(self):
        plan = great.to_each([{"x": number} for number in great.HIGH])
        self.refused(BadBy, None, classes, plan, X, by=None)
        plan = great.to_each([{"x": 1, "r": prime} for prime in great.HIGH], "r")
        self.refused(BadFew, 5, strangers, plan, X, 5)
        self.refused(BadBy, None, strangers, plan, X, 1, by=None)

    def test_arguments_by_name(self):
        self.assertEqual(knowers(by="has", dial=6, goal=X, plan=PLAN), knowers(PLAN, X, 6, by="has"))
        self.assertEqual(classes(goal=X, plan=PLAN), classes(PLAN, X))
        self.assertEqual(strangers(few=1, goal=X, plan=PLAN), strangers(PLAN, X, 1))

    def test_any_values(self):
        for value in ANY:
            if not isinstance(value, Sum):
                self.refused(BadSum, value, classes, PLAN, value)


class Guarantees(Checks):
    def test_more_seen(self):
        """With one line more in a plan, whoever knew a goal still knows it."""
        source = random.Random(5)
        for plan in shared.plans(5, 40):
            goal = shared.some_goal(source, sources(plan))
            note = source.choice(plan.notes)
            person = source.choice([one for one in plan.people if note in plan.saw(one)])
            if note not in plan.has(person) or len(plan) == 21:
                continue
            more = plan + f"call {person} {note}"
            for dial in (2, 6, 9, 360):
                after = knowers(more, goal, dial)
                for group in knowers(plan, goal, dial):
                    self.assertTrue([one for one in after if set(one) <= set(group)])
            for few in range(5):
                self.assertLessEqual(strangers(more, goal, few), strangers(plan, goal, few))

    def test_other_names(self):
        source = random.Random(6)
        for plan in shared.plans(6, 40):
            names = shared.other_names(plan.people + plan.notes)
            other = Plan(shared.renamed_text(plan.text, names))
            goal = shared.some_goal(source, sources(plan))
            again = shared.renamed(goal, names)
            for dial in (2, 6, 9, 360):
                made = [shared.renamed_group(group, names) for group in knowers(plan, goal, dial)]
                self.assertEqual(knowers(other, again, dial), tuple(sorted(made)))
            self.assertEqual([one for one, told_to in classes(other, again)], [one for one, told_to in classes(plan, goal)])
            for few in range(5):
                self.assertEqual(strangers(other, again, few), strangers(plan, goal, few))


if __name__ == "__main__":
    unittest.main()
