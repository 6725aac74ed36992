"""Section 11: two plans."""

import random
import unittest
from itertools import product

from dialsums.comparing import agreeing, parting, shows_parting, within
from dialsums.dials import Dials
from dialsums.errors import BadBy, BadDial, TooGreat, Unlike
from dialsums.plans import Plan
from dialsums.sums import Sum
from dialsums.telling import known
from tests import great, shared
from tests.samples import ANY, Refusals
from tests.test_plans import NO_BYS, groups
from tests.test_telling import NO_DIALS

TEXT = (
    "people ann ben cy\nown ann x\ndraw ann r\nsum ann p = 2 r + x\nhand ann ben p\nsum ann q = 4 r + x\nhand ann cy q\n"
    "burn ann r"
)
PLAN = Plan(TEXT)
OTHER = Plan(TEXT.replace("2 r", "r").replace("4 r", "2 r"))
X = Sum.of("x")
GREATEST = 10 ** 9

TWO = Plan("people ann ben\nown ann x\nown ben y")
UNLIKE = ANY + (
    TEXT, Sum.of("x"), Dials(1, ()), (PLAN,), [PLAN], {"x": PLAN}, Plan("people ann ben cy"), Plan("people ann\nown ann x"),
    Plan("people ben ann cy\nown ann x"), Plan("people ann ben cy\nown ben x"), Plan("people ann ben cy\nown ann y"),
    Plan("people ann ben cy\nown ann x\nown ann y"), Plan("people ann ben cy dan\nown ann x"), PLAN.people, PLAN.owns,
)


def changed(source, plan):
    """A plan with the same own numbers, most often another one."""
    lines = plan.text.split("\n")
    for _ in range(30):
        new = list(lines)
        for _ in range(source.randint(1, 3)):
            at = source.randrange(len(new))
            words = new[at].split(" ")
            if words[0] == "sum" and source.randrange(3):
                total = Sum.of(" ".join(words[4:]))
                parts = tuple((name, source.choice((1, 2, 3, 4, 6, 8, 9, -1, -2, 5))) for name in total.names)
                new[at] = " ".join(words[:4]) + " " + Sum(parts, total.number).text
            elif words[0] not in ("people", "own"):
                del new[at]
        try:
            return Plan("\n".join(new))
        except ValueError:
            continue
    return plan


def pairs(seed, many, **named):
    """So many random pairs of plans that can be compared."""
    source = random.Random(seed)
    return [(plan, changed(source, plan)) for plan in shared.plans(seed, many, **named)]


def own_sums(plan, dial):
    """All sums of own numbers with integers from 0 to dial - 1."""
    names = sorted(note for person, note in plan.owns)
    for integers in product(range(dial), repeat=len(names)):
        yield Sum(tuple((name, many) for name, many in zip(names, integers) if many))


def by_known(one, other, dial, by):
    """Whether each group knows no more by one than by other, and whether no less, by all sums of own numbers."""
    no_more = no_less = True
    for group in groups(one.people):
        rows, seconds = one.rows(group, by=by), other.rows(group, by=by)
        for goal in own_sums(one, dial):
            part, second = known(rows, goal, dial)[0], known(seconds, goal, dial)[0]
            no_more = no_more and second % part == 0
            no_less = no_less and part % second == 0
    return no_more, no_less


class Checks(Refusals):
    def too_great(self, call, *arguments, **named):
        with self.assertRaises(TooGreat) as held:
            call(*arguments, **named)
        self.assertEqual(held.exception.value, GREATEST)

    def right(self, one, other, dial, by="saw"):
        """What parting tells is right; returns whether all groups know the same."""
        made = parting(one, other, dial, by=by)
        self.assertIs(shows_parting(one, other, dial, made, by=by), True)
        self.assertIs(shows_parting(one, other, dial, None, by=by), made is None)
        if made is None:
            return True
        group, goal, part, second = made
        self.assertEqual([value.__class__ for value in made], [tuple, Sum, int, int])
        self.assertIn(group, groups(one.people))
        self.assertEqual(goal.number, 0)
        self.assertTrue(set(goal.names) <= {note for person, note in one.owns})
        self.assertNotEqual(part, second)
        goal = goal % dial
        if all(many <= 9999 for name, many in goal.parts):
            self.assertEqual(known(one.rows(group, by=by), goal, dial)[0], part)
            self.assertEqual(known(other.rows(group, by=by), goal, dial)[0], second)
        return False


class Sets(Checks):
    def test_by_all_small_sums(self):
        kinds = set()
        for one, other in pairs(1, 30, crowd=3, owns=2, sums=4) + pairs(2, 40, crowd=4, owns=1, sums=4):
            by = ("saw", "has")[len(kinds) % 2]
            there, back, both = within(one, other, by=by), within(other, one, by=by), agreeing(one, other, by=by)
            kinds.update((there.text, back.text, both.text))
            for dial in range(2, 7 if len(one.owns) > 1 else 20):
                no_more, no_less = by_known(one, other, dial, by)
                self.assertIs(dial in there, no_more, (one.text, other.text, dial, by))
                self.assertIs(dial in back, no_less, (one.text, other.text, dial, by))
                self.assertIs(dial in both, no_more and no_less, (one.text, other.text, dial, by))
        self.assertGreater(len(kinds), 7)

    def test_by_parting(self):
        for one, other in pairs(3, 60, crowd=4, owns=3, draws=3, sums=5):
            made = agreeing(one, other)
            for dial in list(range(2, 30)) + [32, 36, 64, 81, 97, 125, 360, 961, 10 ** 6]:
                self.assertIs(self.right(one, other, dial), dial in made, (one.text, other.text, dial))

    def test_what_agrees_is_within_both_ways(self):
        for one, other in pairs(4, 80):
            for by in ("saw", "has"):
                self.assertEqual(agreeing(one, other, by=by), within(one, other, by=by) & within(other, one, by=by))
                self.assertEqual(agreeing(one, other, by=by), agreeing(other, one, by=by))
            self.assertEqual(agreeing(one, one).text, "1 : 1 : -")

    def test_some_sets(self):
        self.assertEqual(within(PLAN, OTHER).text, "2 : 1 : -")
        self.assertEqual(within(OTHER, PLAN).text, "1 : 1 : -")
        self.assertEqual(within(PLAN, OTHER, by="has").text, "2 : 1 : -")
        shows = "people ann ben\nown ann x\nown ann y\nsum ann p = {}\nhand ann ben p"
        for first, second, text in (
            ("x", "y", "1 : - : -"), ("x", "6 x", "6 : 1 : -"), ("2 x", "4 x", "4 : 1 2 : -"), ("x + 6 y", "x", "1 : - : 2 3 6"),
            ("6 x", "0", "1 : - : 2 3 6"), ("x", "-x + 5", "1 : 1 : -"), ("2 x", "3 x", "6 : 1 : -"),
            ("4 x", "6 x", "12 : 1 2 : -"), ("4 x", "8 x", "8 : 1 2 4 : -"), ("8 x", "2 y", "1 : - : 2"),
            ("x + y", "x - y", "1 : - : 2"),
        ):
            one, other = Plan(shows.format(first)), Plan(shows.format(second))
            self.assertEqual(agreeing(one, other).text, text, (first, second))
            for dial in range(2, 30):
                self.assertIs(self.right(one, other, dial), dial in agreeing(one, other), (first, second, dial))

    def test_sets_that_have_some_powers_only(self):
        """A dial may be in the set, and a divisor of it not: nothing is known there of what is known on the divisor."""
        shows = "people ann ben\nown ann x\ndraw ann r\nsum ann p = {}\nhand ann ben p"
        for first, second in (("r + x", "2 r + x"), ("2 r + x", "8 r + 4 x"), ("3 r + x", "9 x"), ("6 r + x", "6 x"), ("4 r + x", "4 x")):
            one, other = Plan(shows.format(first)), Plan(shows.format(second))
            for at, made in enumerate((within(one, other), within(other, one))):
                for dial in range(2, 60):
                    self.assertIs(dial in made, by_known(one, other, dial, "saw")[at], (first, second, dial))
        one, other = Plan(shows.format("6 r + x")), Plan(shows.format("6 x"))
        self.assertEqual(within(one, other).text, "36 : 1 4 9 36 : -")
        one, other = Plan(shows.format("4 r + x")), Plan(shows.format("4 x"))
        self.assertEqual(within(one, other).text, "16 : 1 16 : -")

    def test_plans_of_one_person_and_of_four(self):
        one = Plan("people ann\nown ann x")
        other = Plan("people ann\nown ann x\ndraw ann r\nsum ann p = r + x\nburn ann x\nburn ann r")
        self.assertEqual(agreeing(one, other).text, "1 : 1 : -")
        self.assertEqual(agreeing(one, other, by="has").text, "1 : - : -")
        self.assertEqual(within(other, one, by="has").text, "1 : 1 : -")
        nobody = Plan("people d c b a")
        self.assertEqual(within(nobody, nobody + "draw a r").text, "1 : 1 : -")
        self.assertEqual(agreeing(nobody, nobody + "draw a r").text, "1 : 1 : -")
        self.assertIsNone(parting(nobody, nobody + "draw a r", 6))

    def test_what_is_drawn_does_not_matter(self):
        """Of drawn numbers alone groups may know what they like."""
        other = PLAN + "draw ben s" + "call ben s" + "draw cy t"
        self.assertEqual(agreeing(PLAN, other).text, "1 : 1 : -")
        renamed = Plan(TEXT.replace(" r", " s"))
        self.assertEqual(agreeing(PLAN, renamed).text, "1 : 1 : -")


class Great(Checks):
    """What is too great: sets of single groups, and the set that comes, and nothing else."""

    def all_told(self, plan):
        """The plan in which dan shows x itself to the others."""
        return Plan(plan.text.split("\n")[0] + "\nown dan x\nhand dan ann x\nhand dan ben x\nhand dan cy x")

    def test_the_set_that_comes(self):
        for primes in (great.LOW, great.HIGH):
            other = great.to_each([{"x": prime} for prime in primes])
            one = self.all_told(other)
            self.assertEqual(within(other, one).text, "1 : 1 : -")
            if primes == great.LOW:
                whole = primes[0] * primes[1] * primes[2]
                self.assertEqual(within(one, other).text, f"{whole} : 1 : -")
                self.assertEqual(agreeing(one, other).text, f"{whole} : 1 : -")
            else:
                self.too_great(within, one, other)
                self.too_great(agreeing, one, other)
                self.too_great(agreeing, other, one, by="has")
            self.assertIsNone(parting(one, other, 720720))
            self.assertIsNotNone(parting(one, other, primes[1]))

    def test_either_way(self):
        """Nothing great is left of both ways together, but one way alone is too great."""
        other = great.to_each([{"x": prime} for prime in great.HIGH])
        one = self.all_told(other)
        with_y = [Plan(plan.text.replace("own dan x", "own dan x\nown dan y")) for plan in (one, other)]
        with_y[1] = with_y[1] + "hand dan ann y"
        self.too_great(within, with_y[0], with_y[1])
        self.assertEqual(within(with_y[1], with_y[0]).text, "1 : - : -")
        self.too_great(agreeing, with_y[0], with_y[1])
        self.too_great(agreeing, with_y[1], with_y[0])

    def test_single_groups(self):
        """By one r + 210 x is known, by the other so many times x: the powers between are those that are not in the set."""
        one = Plan("people ann ben\nown ann x\ndraw ann r\n" + "\n".join(
            great.powers("ann", "r", 2) + ["sum ann u = 3 r + 5 ra + 2 rb + x", "hand ann ben u"]))
        self.assertEqual(one.row("u").text, "210 r + x")
        for factors, whole in (((210, 1, 1), 210 ** 2), ((210, 210, 1), 210 ** 3)):
            made = within(one, great.chained(*factors))
            self.assertEqual((made.whole, len(made.shares), made.others), (whole, 16, ()))
        other = great.chained(210, 210, 210)
        self.too_great(within, one, other)
        self.too_great(agreeing, one, other)
        self.too_great(agreeing, other, one)
        # Though cy, who is told x by one and not by the other, leaves no dial to the set that comes.
        one, other = [Plan(plan.text.replace("people ann ben", "people ann ben cy")) for plan in (one, other)]
        self.too_great(within, one + "hand ann cy x", other)
        self.too_great(agreeing, one + "hand ann cy x", other)
        self.too_great(agreeing, other, one + "hand ann cy x")
        self.assertEqual(within(one + "hand ann cy x", one).text, "1 : - : -")
        self.assertIsNotNone(parting(one + "hand ann cy x", other, 720720))

    def test_great_numbers_on_the_way_only(self):
        # Ben knows 522910903 times x by each of these: by rows in another sequence, and by the negative of one.
        plan = great.chained(811, 809, 797)
        lines = plan.text.split("\n")
        swapped = [line for line in lines if line[:4] != "hand"] + [line for line in lines if line[:4] == "hand"][::-1]
        negative = plan.text.replace("w = 5 s + 7 sa + 9 sb", "w = -5 s - 7 sa - 9 sb + 99")
        self.assertNotEqual(negative, plan.text)
        for other in (Plan("\n".join(swapped)), Plan(negative)):
            self.assertEqual(agreeing(plan, other).text, "1 : 1 : -")
            self.assertEqual(within(plan, other).text, "1 : 1 : -")
        self.assertEqual(within(plan, plan + "hand ann ben x").text, "1 : 1 : -")
        for note in ("x", "xa", "xb"):
            self.assertEqual(within(plan + f"hand ann ben {note}", plan).text, f"{811 * 809 * 797} : 1 : -")


class Parting(Checks):
    def test_some(self):
        self.assertIsNone(parting(PLAN, OTHER, 9))
        self.assertIs(self.right(PLAN, OTHER, 6), False)
        self.assertIs(self.right(PLAN, OTHER, 9), True)
        self.assertIs(shows_parting(PLAN, OTHER, 6, (("ben",), X, 2, 1)), True)
        self.assertIs(shows_parting(PLAN, OTHER, 6, (("ben",), 3 * X, 6, 3)), True)
        self.assertIs(shows_parting(PLAN, OTHER, 4, (("cy",), X, 4, 2)), True)
        self.assertIs(shows_parting(PLAN, OTHER, 4, (("ben",), X, 2, 1)), True)

    def test_great_integers(self):
        for many in (10 ** 12 - 5, -(10 ** 12) + 1, 6 * 10 ** 11 + 1, 12345678901):
            self.assertIs(shows_parting(PLAN, OTHER, 6, (("ben",), many * X, 2, 1)), many % 2 == 1 and many % 3 != 0)
            self.assertIs(shows_parting(PLAN, OTHER, 6, (("ben",), many * X, 6, 3)), many % 6 == 3)
        self.assertIs(shows_parting(PLAN, OTHER, 6, (("ben",), (10 ** 40 + 3) * X, 2, 1)), True)
        self.assertIs(shows_parting(PLAN, OTHER, 10 ** 6, (("ben",), (10 ** 40 + 1) * X, 2, 1)), True)

    def test_great_dials(self):
        for dial in (10 ** 6, 999983, 2 ** 19, 720720):
            self.assertIs(self.right(PLAN, OTHER, dial), dial % 2 == 1)
            self.assertIs(self.right(OTHER, PLAN, dial, by="has"), dial % 2 == 1)

    def test_all_values_on_a_small_dial(self):
        for dial in (2, 4, 6):
            for group in groups(PLAN.people):
                for many in range(-1, dial + 2):
                    part, second = [known(plan.rows(group), many * X, dial)[0] for plan in (PLAN, OTHER)]
                    for first, last in product(range(0, dial + 1), repeat=2):
                        expected = first == part and last == second and part != second
                        made = shows_parting(PLAN, OTHER, dial, (group, many * X, first, last))
                        self.assertIs(made, expected, (dial, group, many, first, last))

    def test_two_own_numbers(self):
        one = TWO + "hand ben ann y"
        other = TWO + "sum ben p = 2 y" + "hand ben ann p"
        for goal in (Sum.of("y"), Sum.of("x + y"), Sum.of("4 x - 3 y")):
            self.assertIs(shows_parting(one, other, 6, (("ann",), goal, 6, 3)), True)
            self.assertIs(shows_parting(one, other, 6, (("ben",), goal, 6, 3)), False)
        self.assertIs(shows_parting(one, other, 6, (("ann",), Sum.of("2 y"), 6, 6)), False)

    def test_wrong_values(self):
        right = (("ben",), X, 2, 1)
        self.assertIs(shows_parting(PLAN, OTHER, 6, right), True)
        wrong = tuple(value for value in ANY) + (
            right[:3], right + (1,), list(right), (["ben"], X, 2, 1), ("ben", X, 2, 1), (("dan",), X, 2, 1),
            (("ben", "ann"), X, 2, 1), (("ben", "ben"), X, 2, 1), (("ben",), "x", 2, 1), (("ben",), (("x", 1),), 2, 1),
            (("ben",), X + 1, 2, 1), (("ben",), X - 6, 2, 1), (("ben",), Sum.of("r"), 2, 1), (("ben",), Sum.of("p"), 2, 1),
            (("ben",), Sum.of("x + y"), 2, 1), (("ben",), X, 1, 2), (("ben",), X, 2, 2), (("ben",), X, 1, 1), (("ben",), X, 2, True),
            (("ben",), X, 2, None), (("ben",), X, "2", 1), (("ben",), X, (2,), 1), ((), X, 1, 1), (("cy",), X, 2, 1),
            (("ann", "ben"), X, 6, 6), (("ben",), Sum(), 6, 6), (None, X, 2, 1), (("ben",), None, 2, 1), PLAN, OTHER,
        )
        for value in wrong:
            self.assertIs(shows_parting(PLAN, OTHER, 6, value), False, value)
            self.assertIs(shows_parting(PLAN, OTHER, 9, value), value is None, value)
            self.assertIs(shows_parting(PLAN, OTHER, 9, right), False)
        for part, second in ((1, 2), (True, 2)):
            self.assertIs(shows_parting(OTHER, PLAN, 6, (("ben",), X, part, second)), part is not True)
            self.assertIs(shows_parting(PLAN, OTHER, 6, (("ben",), X, second, part)), part is not True)

    def test_goals_that_are_no_own_numbers(self):
        for text in ("r", "r + x", "2 r + x", "x + z", "p + x"):
            part, second = [known(plan.rows(("ben",)), Sum.of(text), 6)[0] for plan in (PLAN, OTHER)]
            if text in ("r + x", "2 r + x"):
                self.assertNotEqual(part, second)
            self.assertIs(shows_parting(PLAN, OTHER, 6, (("ben",), Sum.of(text), part, second)), False, text)

    def test_by(self):
        other = Plan(TEXT.replace("hand ann ben p", "hand ann ben p\nburn ben p"))
        self.assertIsNone(parting(PLAN, other, 6))
        self.assertIs(shows_parting(PLAN, other, 6, None), True)
        self.assertIs(shows_parting(PLAN, other, 6, None, by="has"), False)
        self.assertIs(shows_parting(PLAN, other, 6, (("ben",), X, 2, 1), by="has"), True)
        self.assertIs(shows_parting(PLAN, other, 6, (("ben",), X, 2, 1)), False)
        self.assertIs(self.right(PLAN, other, 6, by="has"), False)


class Refused(Refusals):
    def test_unlike_plans(self):
        for other in UNLIKE:
            if isinstance(other, Plan) and (other.people, other.owns) == (PLAN.people, PLAN.owns):
                continue
            self.refused(Unlike, other, within, PLAN, other)
            self.refused(Unlike, other, agreeing, PLAN, other)
            self.refused(Unlike, other, parting, PLAN, other, 6)
            self.refused(Unlike, other, shows_parting, PLAN, other, 6, None)

    def test_the_same_owns_in_another_sequence(self):
        other = Plan("people ann ben\nown ben y\nown ann x")
        self.refused(Unlike, other, within, TWO, other)
        self.refused(Unlike, other, agreeing, TWO, other)
        self.refused(Unlike, TWO, parting, other, TWO, 6)
        # Where other lines stand does not matter.
        other = Plan("people ann ben\ndraw ben r\nown ann x\ncall ben r\nown ben y")
        self.assertEqual(agreeing(TWO, other).text, "1 : 1 : -")

    def test_dials(self):
        for dial in NO_DIALS:
            self.refused(BadDial, dial, parting, PLAN, OTHER, dial)
            self.refused(BadDial, dial, shows_parting, PLAN, OTHER, dial, None)

    def test_by(self):
        for by in NO_BYS:
            self.refused(BadBy, by, within, PLAN, OTHER, by=by)
            self.refused(BadBy, by, agreeing, PLAN, OTHER, by=by)
            self.refused(BadBy, by, parting, PLAN, OTHER, 6, by=by)
            self.refused(BadBy, by, shows_parting, PLAN, OTHER, 6, None, by=by)
        self.assertRaises(TypeError, within, PLAN, OTHER, "saw")
        self.assertRaises(TypeError, shows_parting, PLAN, OTHER, 6, None, "saw")

    def test_the_first_one_is_refused(self):
        for wrong in (None, True, ["x"], "saw?", -1, TEXT):
            self.refused(Unlike, wrong, within, PLAN, wrong, by=wrong)
            self.refused(Unlike, wrong, agreeing, PLAN, wrong, by=wrong)
            self.refused(Unlike, wrong, parting, PLAN, wrong, wrong, by=wrong)
            self.refused(BadDial, wrong, parting, PLAN, OTHER, wrong, by=wrong)
            self.refused(BadBy, wrong, parting, PLAN, OTHER, 6, by=wrong)
            self.refused(Unlike, wrong, shows_parting, PLAN, wrong, wrong, wrong, by=wrong)
            self.refused(BadDial, wrong, shows_parting, PLAN, OTHER, wrong, wrong, by=wrong)
            self.refused(BadBy, wrong, shows_parting, PLAN, OTHER, 6, wrong, by=wrong)
        other = great.to_each([{"x": prime} for prime in great.HIGH])
        one = Plan("people ann ben cy dan\nown dan x\nhand dan ann x\nhand dan ben x\nhand dan cy x")
        self.refused(BadBy, None, within, one, other, by=None)

    def test_arguments_by_name(self):
        self.assertEqual(within(other=OTHER, one=PLAN), within(PLAN, OTHER))
        self.assertEqual(agreeing(by="has", other=OTHER, one=PLAN), agreeing(PLAN, OTHER, by="has"))
        made = parting(dial=6, other=OTHER, one=PLAN)
        self.assertEqual(made, parting(PLAN, OTHER, 6))
        self.assertIs(shows_parting(value=made, dial=6, other=OTHER, one=PLAN), True)


class Guarantees(Checks):
    def test_side_by_side(self):
        for one, other in pairs(6, 60):
            for low, high in ((4, 9), (2, 3), (8, 25), (5, 36)):
                made = [parting(one, other, dial) is None for dial in (low, high, low * high)]
                self.assertEqual(made[0] and made[1], made[2])

    def test_other_names(self):
        for one, other in pairs(7, 40):
            names = shared.other_names(one.people + one.notes + other.notes)
            new = [Plan(shared.renamed_text(plan.text, names)) for plan in (one, other)]
            self.assertEqual(within(*new), within(one, other))
            self.assertEqual(agreeing(*new), agreeing(one, other))


if __name__ == "__main__":
    unittest.main()
