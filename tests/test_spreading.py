"""Section 7: what rows tell on all dials."""

from itertools import product
from math import gcd

from dialsums.dials import Dials
from dialsums.errors import BadRows, BadSum, BadSums, TooGreat
from dialsums.spreading import hidden, parts, told
from dialsums.sums import Sum
from dialsums.telling import known, leak
from tests import slow, ways
from tests.samples import Refusals
from tests.test_telling import NO_GOALS, NO_ROWS, NO_SUMS, renamed

X, Y, A = Sum.of("x"), Sum.of("y"), Sum.of("a")
FOUR = (Sum.of("4 x"),)
GREATEST = 10 ** 9
DIALS = tuple(range(2, 61)) + (64, 72, 81, 96, 97, 100, 121, 125, 128, 144, 169, 243, 256, 343, 360, 1000, 10 ** 6)
# The greatest prime below 10 ** 9, and the two primes beside 31623.
PRIME, LOW, HIGH = 999999937, 31607, 31627


def chain(many):
    """Rows that make each of so many names 9999 times the one ahead: a, b, c and so on."""
    names = "abcdefghijk"[:many]
    return tuple(Sum(((low, -9999), (high, 1))) for low, high in zip(names, names[1:]))


def figures(number):
    """A Sum that comes to so many times a behind a chain of six."""
    found = []
    for name in "abcdef":
        found.append((name, number % 9999))
        number = number // 9999
    assert number == 0
    return Sum(tuple(pair for pair in found if pair[1]))


def nothing(number):
    """Rows that tell that so many times a, and no lesser multiple, is 0."""
    return chain(6) + (figures(number),)


def by_trial(number):
    """All divisors of a number, ascending."""
    low = [one for one in range(1, 31624) if number % one == 0 and one * one <= number]
    return sorted(set(low + [number // one for one in low]))


def least_whole(kind, rows, goal, top, dials):
    """The least whole, up to top, by which parts on all these dials can be told, with the numbers it tells."""
    for whole in range(1, top + 1):
        table = {}
        for dial in dials:
            part = known(rows, goal, dial)[0]
            number = dial // part if kind == "over" else part
            if table.setdefault(gcd(dial, whole), number) != number:
                break
        else:
            return whole, table
    return None


class Checks(Refusals):
    def table_is_right(self, rows, goal, dials=DIALS):
        """What parts tells is right on these dials; returns the word and the whole."""
        made = parts(rows, goal)
        self.assertIs(made.__class__, tuple)
        word, whole, table = made
        self.assertIs(table.__class__, tuple)
        self.assertEqual([q for q, number in table], [q for q in range(1, whole + 1) if whole % q == 0])
        for pair in table:
            self.assertEqual([one.__class__ for one in pair], [int, int])
        numbers = dict(table)
        for dial in dials:
            number = numbers[gcd(dial, whole)]
            self.assertEqual(known(rows, goal, dial)[0], dial // number if word == "over" else number, (rows, goal, dial))
        return word, whole

    def too_great(self, call, *told):
        with self.assertRaises(TooGreat) as held:
            call(*told)
        self.assertEqual(held.exception.value, GREATEST)
        self.assertIs(held.exception.value.__class__, int)


class Parts(Checks):
    def test_each_dial_up_to_a_bound(self):
        for rows, goals in ways.cases(1, 250, "abcd", (1, 2, 4, 6), rows=4):
            try:
                self.table_is_right(rows, goals[0])
            except TooGreat:
                self.fail((rows, goals))

    def test_least_whole(self):
        dials = range(2, 200)
        for rows, goals in ways.cases(2, 250, "abc", (1, 2, 3, 5), rows=2):
            word, whole, table = parts(rows, goals[0])
            if whole <= 66:
                least, numbers = least_whole(word, rows, goals[0], whole, dials)
                self.assertEqual((whole, dict(table)), (least, numbers), (rows, goals))

    def test_one_row_and_one_name(self):
        for many, goal in product(range(-24, 25), repeat=2):
            word, whole = self.table_is_right((many * X,), goal * X, range(2, 30))
            if many == 0 and goal != 0:
                self.assertEqual((word, whole), ("part", abs(goal)))
            else:
                self.assertEqual(word, "over")

    def test_some_wholes(self):
        self.assertEqual(parts((4 * X,), 2 * X), ("over", 4, ((1, 1), (2, 1), (4, 2))))
        self.assertEqual(parts((12 * X,), 4 * X), ("over", 3, ((1, 1), (3, 3))))
        self.assertEqual(parts((6 * X,), 4 * X), ("over", 3, ((1, 1), (3, 3))))
        self.assertEqual(parts((6 * X,), X), ("over", 6, ((1, 1), (2, 2), (3, 3), (6, 6))))
        self.assertEqual(parts((X + 6 * Y,), X), ("part", 6, ((1, 1), (2, 2), (3, 3), (6, 6))))
        self.assertEqual(parts((2 * X + 2 * Y,), X + Y), ("over", 2, ((1, 1), (2, 2))))
        self.assertEqual(parts((4 * X + 4 * Y,), X + 3 * Y), ("part", 8, ((1, 1), (2, 1), (4, 1), (8, 2))))
        self.assertEqual(parts((X,), 9 * X), ("over", 1, ((1, 1),)))
        self.assertEqual(parts((), 9 * X), ("part", 9, ((1, 1), (3, 3), (9, 9))))
        self.assertEqual(parts((), X), ("part", 1, ((1, 1),)))

    def test_goals_and_rows_without_names(self):
        for goal in (Sum(), Sum((), 7)):
            for rows in ((), FOUR, (Sum(), Sum((), 3))):
                self.assertEqual(parts(rows, goal), ("over", 1, ((1, 1),)))
        self.assertEqual(parts((Sum(), Sum((), 3)), 2 * X), ("part", 2, ((1, 1), (2, 2))))

    def test_the_word(self):
        for rows, goals in ways.cases(3, 200, "abc", (1, 3, 9), rows=3):
            word, whole, table = parts(rows, goals[0])
            far = [known(rows, goals[0], dial)[0] for dial in (2 ** 16, 2 ** 19)]
            self.assertEqual(word, "part" if far[0] == far[1] else "over")

    def test_great_wholes(self):
        for number in (GREATEST, 735134400, PRIME, 2 ** 29, 3 ** 18, 5 ** 12, LOW ** 2, LOW * HIGH, LOW * 31622):
            word, whole, table = parts(nothing(number), A)
            self.assertEqual((word, whole), ("over", number))
            self.assertEqual(table, tuple((q, q) for q in by_trial(number)))
            for dial in DIALS[::7] + (LOW, HIGH, 2 * LOW, 62500, 531441, 999983):
                self.assertEqual(known(nothing(number), A, dial)[0], dial // gcd(dial, number))
            word, whole, table = parts(chain(6), figures(number))
            self.assertEqual((word, whole), ("part", number))
            self.assertEqual(table, tuple((q, q) for q in by_trial(number)))

    def test_just_too_great(self):
        for number in (GREATEST + 1, 10 ** 9 + 7, HIGH * 31643, HIGH ** 2, 2 * PRIME, PRIME ** 2, 2 ** 30, 3 ** 19, 10 ** 20):
            self.too_great(parts, nothing(number), A)
        self.too_great(parts, chain(6), Sum.of("d"))
        self.too_great(parts, chain(6), Sum.of("f"))
        self.assertEqual(parts(chain(3), Sum.of("c"))[:2], ("part", 9999 ** 2))

    def test_great_numbers_on_the_way_only(self):
        for number, goal, whole in (
            (10 ** 20, 10 ** 20, 1), (10 ** 20, 5 ** 20, 2 ** 20), (10 ** 20, 2 ** 20 * 5 ** 19, GREATEST + 1), (PRIME ** 2, PRIME ** 2, 1),
            (6 * PRIME * LOW, PRIME * LOW, 6), (6 * PRIME * LOW, 3 * PRIME * LOW, 2), (6 * PRIME * LOW, 6 * LOW, PRIME),
            (12 * HIGH ** 2, 4 * HIGH ** 2, 3), (12 * HIGH ** 2, 2 * HIGH ** 2, 12), (12 * HIGH ** 2, 12, GREATEST + 1),
            (2 ** 29 * 3 ** 20, 3 ** 20, 2 ** 29), (2 ** 30 * 3 ** 20, 3 ** 20, GREATEST + 1), (LOW ** 3, LOW, GREATEST + 1),
            (HIGH * 31643 * 5, HIGH * 31643, 5), (HIGH * 31643 * 5, 5 * HIGH, 31643), (PRIME ** 2, PRIME, GREATEST + 1),
        ):
            if whole > GREATEST:
                self.too_great(parts, nothing(number), figures(goal))
            else:
                made = parts(nothing(number), figures(goal))
                self.assertEqual(made[:2], ("over", whole))
                self.assertEqual(made[2], tuple((q, gcd(q, number) // gcd(q, goal, number)) for q in by_trial(whole)))

    def test_parts_of_both_kinds(self):
        """The goal has names beside those of the rows, and multiples of the others are told."""
        for many, apart, goal in product((1, 4, 12, 60), (1, 2, 9, 30), (1, 2, 3, 10)):
            word, whole = self.table_is_right((many * X,), goal * X + apart * Y)
            self.assertEqual(word, "part")


class Sets(Checks):
    def set_is_right(self, made, holds, dials=DIALS):
        self.assertIs(made.__class__, Dials)
        for dial in dials:
            self.assertIs(dial in made, holds(dial), dial)

    def test_told_on_each_dial_up_to_a_bound(self):
        for rows, goals in ways.cases(11, 250, "abcd", (1, 2, 4, 6), rows=4):
            goal = goals[0]
            self.set_is_right(told(rows, goal), lambda dial: known(rows, goal, dial)[0] == dial)

    def test_hidden_on_each_dial_up_to_a_bound(self):
        for rows, goals in ways.cases(12, 250, "abcd", (1, 2, 4, 6), rows=4, goals=4):
            self.set_is_right(hidden(rows, goals), lambda dial: leak(rows, goals, dial) is None)

    def test_great_integers_on_each_dial_up_to_a_bound(self):
        for rows, goals in ways.cases(13, 60, "abcdef", (60, 9999), rows=6, goals=4):
            for call, goal, holds in (
                (told, goals[0], lambda dial: known(rows, goals[0], dial)[0] == dial),
                (hidden, goals, lambda dial: leak(rows, goals, dial) is None),
            ):
                try:
                    made = call(rows, goal)
                except TooGreat:
                    continue
                self.set_is_right(made, holds)

    def test_least_wholes(self):
        for rows, goals in ways.cases(14, 150, "abc", (1, 2, 3), rows=2, goals=2):
            sets = (
                (told(rows, goals[0]), lambda dial: known(rows, goals[0], dial)[0] == dial),
                (hidden(rows, goals), lambda dial: leak(rows, goals, dial) is None),
            )
            for made, holds in sets:
                if made.whole <= 12:
                    bound = max((12,) + made.others)
                    marks = [False, False] + [holds(dial) for dial in range(2, bound + made.whole ** 2 + 1)]
                    least = slow.least(marks, bound, made.whole)
                    self.assertEqual((made.whole, made.shares, made.others), least, (rows, goals))

    def test_one_row_and_one_name(self):
        for many, goal in product(range(-16, 17), repeat=2):
            rows, goals = (many * X,), (goal * X,)
            self.set_is_right(told(rows, goals[0]), lambda dial: goal % gcd(many, dial) == 0, range(2, 60))
            self.set_is_right(hidden(rows, goals), lambda dial: leak(rows, goals, dial) is None, range(2, 60))

    def test_some_sets(self):
        every, none = "1 : 1 : -", "1 : - : -"
        cases = (
            (told((), X), none), (told((), 0 * X), every), (told((X,), X), every), (told((X, Y), 5 * X - 3 * Y), every),
            (told((X + Y,), X), none), (told((), 12 * X), "1 : - : 2 3 4 6 12"), (told((12 * X,), X), "6 : 1 : -"),
            (told((8 * X,), 2 * X), "4 : 1 2 : -"), (told((12 * X,), 2 * X), "12 : 1 2 : -"),
            (told((X + 4 * Y,), X), "1 : - : 2 4"), (told((2 * X, 3 * X), X), every), (told((Sum(),), Sum((), 9)), every),
            (told((3 * X,), X + 6 * Y), "1 : - : 2"), (told((9 * X,), 3 * X), "9 : 1 3 : -"),
            (hidden((), (X,)), every), (hidden((), (X, Y, X, 2 * X)), every), (hidden((X,), (X,)), none),
            (hidden((X,), (Y,)), every), (hidden((X,), (6 * X,)), "1 : - : 2 3 6"), (hidden((6 * X,), (X,)), "1 : - : 2 3 6"),
            (hidden((2 * X,), (2 * X,)), "1 : - : 2"), (hidden((X + 6 * Y,), (X,)), "6 : 1 : -"),
            (hidden((X + Y,), (X - Y,)), "2 : 1 : -"), (hidden((X + Y,), (X, X + 2 * Y)), "1 : - : 2"),
            (hidden((2 * X + 4 * Y,), (X,)), "4 : 1 2 : -"), (hidden((X,), (Sum((), 3), Sum())), every),
            (hidden((X + Y,), (2 * X, 2 * Y)), "1 : - : 2"), (hidden((4 * X, 6 * Y), (X, Y)), "1 : - : 2"),
        )
        for made, text in cases:
            self.assertEqual(made.text, text)

    def test_great_sets_that_are_told(self):
        for number, goal, text in (
            (GREATEST, 1, "10 : 1 : -"), (PRIME, 1, f"{PRIME} : 1 : -"), (PRIME ** 2, 1, f"{PRIME} : 1 : -"),
            (HIGH ** 2, 1, f"{HIGH} : 1 : -"), (HIGH ** 4, 1, f"{HIGH} : 1 : -"), (HIGH ** 5, 1, f"{HIGH} : 1 : -"),
            (LOW ** 5, 1, f"{LOW} : 1 : -"), (LOW ** 4, LOW, f"{LOW ** 2} : 1 {LOW} : -"), (30 ** 10, 1, "30 : 1 : -"),
            (LOW * HIGH, 1, f"{LOW * HIGH} : 1 : -"), (LOW ** 2 * HIGH ** 2, 1, f"{LOW * HIGH} : 1 : -"),
            (12 * HIGH ** 3, 1, f"{6 * HIGH} : 1 : -"), (HIGH * 31643, HIGH, f"31643 : 1 : -"), (10 ** 20, 10 ** 20, "1 : 1 : -"),
            (6 * PRIME * HIGH, PRIME * HIGH, "6 : 1 : -"), (6 * PRIME * HIGH, 3 * PRIME * HIGH, "2 : 1 : -"),
            (20 * PRIME ** 2, 10 * PRIME ** 2, "4 : 1 2 : -"), (999999929 * 7, 7, "999999929 : 1 : -"),
        ):
            self.assertEqual(told(nothing(number), figures(goal)).text, text)
        powers = " ".join(str(2 ** many) for many in range(29))
        self.assertEqual(told(nothing(2 ** 60), figures(2 ** 28)).text, f"{2 ** 29} : {powers} : -")

    def test_sets_of_what_is_told_that_are_too_great(self):
        for number, goal in (
            (2 * PRIME, 1), (GREATEST + 7, 1), (PRIME ** 2, PRIME), (HIGH * 31643, 1), (HIGH ** 2, HIGH), (2 ** 60, 2 ** 29),
            (HIGH ** 2 * 31643 ** 2, 1), (LOW ** 3, LOW ** 2), (6 * HIGH * LOW, 1), (10 ** 20, 10 ** 9), (HIGH ** 4, HIGH ** 2),
            (30 ** 14, 30 ** 6), (6469693230, 1), (223092870 * 29, 1), (PRIME * 999999929, 1), (PRIME * 999999929, 5),
        ):
            self.too_great(told, nothing(number), figures(goal))
        self.assertEqual(told(nothing(223092870), A).text, "223092870 : 1 : -")

    def test_others_that_are_told(self):
        for number in (GREATEST, 735134400, PRIME, LOW * HIGH, LOW ** 2, 2 ** 29, 2, 1):
            self.assertEqual(told(chain(6), figures(number)), Dials(1, (), tuple(by_trial(number)[1:])))
        for number in (GREATEST + 1, 2 * PRIME, 2 ** 30, HIGH ** 2, 10 ** 20, HIGH * 31643):
            self.too_great(told, chain(6), figures(number))

    def test_others_of_great_numbers_that_are_little(self):
        for number, many, text in ((10 ** 12, 10, "-"), (21 * 10 ** 12, 10, "3 7 21"), (10 ** 12, 2, " ".join(
                str(5 ** exponent) for exponent in range(1, 13))), (PRIME * HIGH * 2, 1, None)):
            rows, goal = chain(6) + (many * X,), figures(number) + X
            if text is None:
                self.too_great(told, rows, goal)
            else:
                self.assertEqual(told(rows, goal).text, f"1 : - : {text}")

    def test_great_sets_that_are_hidden(self):
        for number in (GREATEST, 735134400, PRIME, LOW * HIGH, LOW ** 2, 2 ** 29, 2, 1):
            self.assertEqual(hidden(nothing(number), (A,)), Dials(1, (), tuple(by_trial(number)[1:])))
            self.assertEqual(hidden(chain(6), (A, X)), Dials(1, (1,)))
        for number in (GREATEST + 1, 2 * PRIME, 2 ** 30, HIGH ** 2, 10 ** 20, HIGH * 31643):
            self.too_great(hidden, nothing(number), (A,))
            self.too_great(hidden, nothing(number), (A, X, X))

    def test_great_wholes_of_what_is_hidden(self):
        for number, whole in (
            (GREATEST, 10), (PRIME, PRIME), (PRIME ** 2, PRIME), (HIGH ** 5, HIGH), (LOW ** 4, LOW), (LOW * HIGH, LOW * HIGH),
            (12 * HIGH ** 3, 6 * HIGH), (223092870, 223092870), (30 ** 14, 30), (1, 1),
        ):
            for goals in ((X,), (X, Y), (Y, X, 2 * X)):
                self.assertEqual(hidden(chain(6) + (X + figures(number),), goals).text, f"{whole} : 1 : -")
        for number in (2 * PRIME, HIGH * 31643, HIGH ** 2 * 31643, 6469693230, PRIME * LOW, HIGH ** 3 * 31643):
            self.too_great(hidden, chain(6) + (X + figures(number),), (X,))

    def test_what_is_too_great_together_only(self):
        rows = (Sum.of("6 a"), Sum.of("35 b"), Sum.of("9999 c"))
        self.assertEqual(told(rows, Sum.of("a + b")).text, "210 : 1 : -")
        self.assertEqual(told(rows, Sum.of("a + 5 b + 3 c")).whole, 2 * 3 * 7 * 11 * 101)
        many = tuple(Sum(((name, number),)) for name, number in zip("abcdef", (8989, 9409, 9973, 9967, 2, 4)))
        self.too_great(told, many, Sum.of("a + b + c + d"))
        self.assertEqual(told(many, Sum.of("c + d + e")).text, f"{9973 * 9967 * 2} : 1 : -")
        self.too_great(parts, many, Sum.of("a + c + d"))
        self.assertEqual(parts(many, Sum.of("c + d + f"))[:2], ("over", 9973 * 9967 * 4))


class Guarantees(Checks):
    def test_more_rows(self):
        for rows, goals in ways.cases(21, 150, "abcd", (1, 2, 4), rows=4, goals=3):
            for many in range(len(rows)):
                self.assertLessEqual(told(rows[:many], goals[0]), told(rows[:many + 1], goals[0]))
                self.assertGreaterEqual(hidden(rows[:many], goals), hidden(rows[:many + 1], goals))

    def test_other_names(self):
        others = {"a": "zz", "b": "y", "c": "a", "d": "b"}
        for rows, goals in ways.cases(22, 150, "abcd", (1, 2, 6), rows=4, goals=4):
            new_rows = tuple(renamed(row, others) for row in rows)
            new_goals = tuple(renamed(goal, others) for goal in goals)
            self.assertEqual(parts(new_rows, new_goals[0]), parts(rows, goals[0]))
            self.assertEqual(told(new_rows, new_goals[0]), told(rows, goals[0]))
            self.assertEqual(hidden(new_rows, new_goals), hidden(rows, goals))

    def test_the_sequence_of_rows_and_goals(self):
        for rows, goals in ways.cases(23, 100, "abcd", (1, 2, 6), rows=4, goals=4):
            self.assertEqual(parts(rows[::-1] + rows[:1], goals[0]), parts(rows, goals[0]))
            self.assertEqual(hidden(rows[::-1], goals[::-1]), hidden(rows, goals))


class Refused(Refusals):
    def test_rows(self):
        for rows in NO_ROWS:
            self.refused(BadRows, rows, parts, rows, X)
            self.refused(BadRows, rows, told, rows, X)
            self.refused(BadRows, rows, hidden, rows, (X,))

    def test_goals(self):
        for goal in NO_SUMS:
            self.refused(BadSum, goal, parts, FOUR, goal)
            self.refused(BadSum, goal, told, FOUR, goal)
        for goals in NO_GOALS:
            self.refused(BadSums, goals, hidden, FOUR, goals)

    def test_bounds(self):
        for many in (9999, -9999):
            total = Sum((("a", many),), 10 ** 12 - 1)
            self.assertEqual(parts((total,) * 12, total), ("over", 1, ((1, 1),)))
            self.assertEqual(told((total,) * 12, total).text, "1 : 1 : -")
            self.assertEqual(hidden((total,) * 12, (total,) * 4).text, "1 : - : " + " ".join(map(str, by_trial(9999)[1:])))
            self.assertEqual(parts((), total)[:2], ("part", 9999))
            self.assertEqual(hidden((), (total,) * 4).text, "1 : 1 : -")

    def test_numbers_beside_do_not_count(self):
        for number in (1, -9999, 10 ** 40):
            rows = (4 * X + number, X + Y - number)
            self.assertEqual(parts(rows, X + number), parts((4 * X, X + Y), X))
            self.assertEqual(told(rows, X - number), told((4 * X, X + Y), X))
            self.assertEqual(hidden(rows, (X - number, Y)), hidden((4 * X, X + Y), (X, Y)))

    def test_the_first_one_is_refused(self):
        great = nothing(10 ** 20)
        for wrong in (None, True, [X], "x", 0, (None,)):
            self.refused(BadRows, wrong, parts, wrong, wrong)
            self.refused(BadRows, wrong, told, wrong, wrong)
            self.refused(BadRows, wrong, hidden, goals=None, rows=wrong)
            self.refused(BadSum, wrong, parts, great, wrong)
            self.refused(BadSum, wrong, told, great, wrong)
            self.refused(BadSums, wrong, hidden, great, wrong)

    def test_arguments_by_name(self):
        self.assertEqual(parts(goal=X, rows=FOUR), parts(FOUR, X))
        self.assertEqual(told(goal=X, rows=FOUR), told(FOUR, X))
        self.assertEqual(hidden(goals=(X,), rows=FOUR), hidden(FOUR, (X,)))
