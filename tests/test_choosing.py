"""Section 13: the cheapest changes."""

import random
import unittest
from itertools import combinations

from dialsums.choosing import cheapest
from dialsums.dials import Dials
from dialsums.errors import BadOffers, BadPlan, BadWishes, TooGreat
from dialsums.plans import Plan
from dialsums.playing import sources
from dialsums.spreading import told
from dialsums.sums import Sum
from dialsums.telling import known, leak
from tests import great, shared
from tests.samples import ANY, Refusals

PLAN = Plan(
    "people ann ben cy\nown ann x\ndraw ann r\nsum ann p = 2 r + x\nhand ann ben p\nsum ann q = 4 r + x\nhand ann cy q\n"
    "burn ann r"
)
X, R = Sum.of("x"), Sum.of("r")
EVERY, EVEN = Dials(1, (1,)), Dials(2, (2,))
OFFERS = ((4, "sum ann p = r + x", 3), (5, "", 2), (6, "sum ann q = 2 r + x", 1))
TOLD, HIDDEN = ("told", ("ben", "cy"), (X,), EVERY), ("hidden", ("ben",), (X,), EVEN)
WISHES = (TOLD, HIDDEN)
GREATEST = 10 ** 9

NO_OFFERS = ANY + (
    [OFFERS[0]], OFFERS[0], {}, (list(OFFERS[0]),), ((4, "x"),), ((4, "x", 3, 3),), ((0, "x", 3),), ((9, "x", 3),), ((-1, "x", 3),),
    ((True, "x", 3),), (("4", "x", 3),), ((None, "x", 3),), ((4, None, 3),), ((4, 5, 3),), ((4, ["x"], 3),), ((4, ("x",), 3),),
    ((4, "x", 0),), ((4, "x", 10),), ((4, "x", -1),), ((4, "x", True),), ((4, "x", "3"),), ((4, "x", None),), OFFERS[::-1],
    OFFERS[:1] * 2, OFFERS + ((7, "", 1), (8, "", 1)), OFFERS + (None,), ((4, "b", 1), (4, "a", 1)), ((4, "a", 2), (4, "a", 1)),
    ((5, "", 1), (4, "", 1)), ((4, "a", 1), (4, "a", 1)), ((4, "a", 1), (4, "a", True)), PLAN, (PLAN,),
    ((1, "", 1), (2, "", 1), (3, "", 1), (4, "", 1), (5, "", 1)), ((10 ** 12, "x", 1),), ((4.0, "x", 1),),
)

NO_WISHES = ANY + (
    [TOLD], TOLD, {}, (list(TOLD),), (TOLD[:3],), (TOLD + (1,),), (("tell",) + TOLD[1:],), ((None,) + TOLD[1:],), ((["told"],) + TOLD[1:],),
    (("Told",) + TOLD[1:],), ((("told",),) + TOLD[1:],), ((True,) + TOLD[1:],), WISHES * 2, WISHES + (None,), (TOLD,) * 4, (None,),
    ("told",), (PLAN,), (X,), WISHES + (HIDDEN[:3],),
) + tuple((("hidden", group, (X,), EVEN),) for group in (
    None, "ben", ["ben"], ("Ben",), ("ben", "ann"), ("ben", "ben"), ("ben", 1), (("ben",),), (None,), ("",), ("abcdefghi",), {"ben": 1}, 5, X,
)) + tuple((("told", ("ben",), goals, EVEN),) for goals in (
    None, X, [X], (), (X,) * 5, (X, None), ("x",), (X, True), ((X,),), (Sum((("x", 10000),)),), (X, Sum((("x", -10000),))), (PLAN,), 5, (("x", 1),),
)) + tuple((("told", ("ben",), (X,), dials),) for dials in (
    None, Dials(1, ()), Dials(2, ()), Dials(1, (), ()), (2,), [2], "1 : 1 : -", 2, X, PLAN, EVEN.text, (EVEN,),
))


def sequence(offers):
    """All choices, in sequence, with their prices."""
    found = []
    for many in range(len(offers) + 1):
        for choice in combinations(offers, many):
            if len({number for number, text, price in choice}) == many:
                found.append((sum(price for number, text, price in choice), many, choice))
    return [(price, choice) for price, many, choice in sorted(found)]


def changed(plan, choice):
    """The plan that a choice makes, None if it makes none."""
    lines = dict(enumerate(plan.text.split("\n"), start=1))
    for number, text, price in choice:
        if text == "":
            del lines[number]
        else:
            lines[number] = text
    try:
        return Plan("\n".join(lines[number] for number in sorted(lines)))
    except BadPlan:
        return None


def holds(plan, wish, dial):
    """Whether a wish holds on a dial."""
    word, group, goals, dials = wish
    names = {name for goal in goals for name in goal.names}
    if not set(group) <= set(plan.people) or not names <= set(sources(plan)):
        return False
    rows = plan.rows(group)
    if word == "told":
        return all(known(rows, goal, dial)[0] == dial for goal in goals)
    return leak(rows, goals, dial) is None


def slow(plan, offers, wishes, top):
    """What cheapest must tell, if all dials matter only up to this one."""
    reasons = []
    for price, choice in sequence(offers):
        made = changed(plan, choice)
        if made is None:
            continue
        lack = None
        for number, wish in enumerate(wishes):
            wrong = [dial for dial in range(2, top) if dial in wish[3] and not holds(made, wish, dial)]
            if lack is None and wrong:
                lack = choice, number, wrong[0]
        if lack is None:
            return "choice", price, choice, tuple(reasons)
        reasons.append(lack)
    return "none", tuple(reasons)


def some_offer(source, plan):
    """A random offer, most often of lines that can stand there."""
    number = source.randint(2 if source.randrange(8) else 1, len(plan))
    words = plan[number].split(" ")
    if source.randrange(4) == 0:
        text = ""
    elif words[0] == "sum":
        names = Sum.of(" ".join(words[4:])).names
        text = " ".join(words[:4]) + " " + Sum(tuple((name, source.choice((1, 2, 3, -1))) for name in names)).text
    elif words[0] in ("hand", "call"):
        other = source.choice(plan.people)
        text = f"hand {words[1]} {other} {words[-1]}" if other != words[1] else f"call {words[1]} {words[-1]}"
    elif words[0] == "people":
        text = "people " + " ".join(plan.people[::-1])
    else:
        text = plan[number] + f"\n{source.choice(('call', 'burn'))} {words[1]} {words[-1]}"
    return number, text, source.randint(1, 9)


def some_dials(source):
    """A random set with little dials."""
    while True:
        whole = source.choice((1, 2, 3, 4, 6, 12))
        shares = tuple(share for share in range(1, whole + 1) if whole % share == 0 and source.randrange(2))
        made = Dials(whole, shares, tuple(sorted(source.sample(range(2, 14), source.choice((0, 0, 1, 3))))))
        if not made.is_empty and made.after(1) < 15:
            return made


def some_wish(source, plan):
    """A random wish."""
    people = source.sample(plan.people, source.randint(0, len(plan.people)))
    if source.randrange(15) == 0:
        people.append("zed")
    names = [note for person, note in plan.owns] + ["q"] * (source.randrange(20) == 0)
    goals = []
    for _ in range(source.randint(1, 2)):
        goals.append(Sum(tuple((name, source.choice((1, 1, 2, -3))) for name in sorted(names) if source.randrange(3))))
    return source.choice(("told", "hidden", "hidden")), tuple(sorted(people)), tuple(goals), some_dials(source)


def some_wishes(source, plan, offers):
    """Random wishes, most often such as hold by a choice, and not by the plan itself."""
    found = []
    made = [changed(plan, choice) for price, choice in sequence(offers)]
    wanted = source.choice([one for one in made if one is not None])
    for _ in range(60):
        wish = some_wish(source, plan)
        dials = [dial for dial in range(2, 20) if dial in wish[3]]
        is_wanted = all(holds(wanted, wish, dial) for dial in dials)
        is_there = all(holds(plan, wish, dial) for dial in dials)
        if is_wanted and not is_there or source.randrange(40) == 0:
            found.append(wish)
    return tuple(found[:source.randint(1, 3)]) or (wish,)


class Checks(Refusals):
    def too_great(self, *arguments):
        with self.assertRaises(TooGreat) as held:
            cheapest(*arguments)
        self.assertEqual(held.exception.value, GREATEST)


class Slow(Checks):
    def test_over_all_choices(self):
        source = random.Random(1)
        kinds = {}
        for plan in shared.plans(31, 200, crowd=3, owns=2, draws=2, sums=4):
            offers = tuple(sorted({some_offer(source, plan) for _ in range(source.randint(1, 4))}))
            wishes = some_wishes(source, plan, offers)
            made, expected = cheapest(plan, offers, wishes), slow(plan, offers, wishes, 70)
            self.assertEqual(made, expected, (plan.text, offers, wishes))
            key = made[0], min(3, len(made[-1]))
            kinds[key] = kinds.get(key, 0) + 1
        for key in (("choice", 0), ("choice", 1), ("choice", 2), ("none", 1), ("none", 3)):
            self.assertGreater(kinds[key], 3, kinds)


class Some(Checks):
    def test_the_example(self):
        made = cheapest(PLAN, OFFERS, WISHES)
        self.assertEqual(made[:3], ("choice", 4, (OFFERS[0], OFFERS[2])))
        self.assertEqual(made[3], (
            ((), 1, 2), ((OFFERS[2],), 0, 3), ((OFFERS[1],), 0, 3), ((OFFERS[0],), 0, 3), ((OFFERS[1], OFFERS[2]), 0, 3),
        ))
        self.assertEqual(made, slow(PLAN, OFFERS, WISHES, 30))

    def test_kinds(self):
        made = cheapest(PLAN, OFFERS, WISHES)
        self.assertEqual([value.__class__ for value in made], [str, int, tuple, tuple])
        for reason in made[3]:
            self.assertEqual([value.__class__ for value in reason], [tuple, int, int])
        made = cheapest(PLAN, OFFERS, (("hidden", ("ann",), (X,), EVEN),))
        self.assertEqual([value.__class__ for value in made], [str, tuple])
        self.assertEqual(made[0], "none")

    def test_nothing_need_be_changed(self):
        self.assertEqual(cheapest(PLAN, OFFERS, (("told", ("ann",), (X, R), EVERY),)), ("choice", 0, (), ()))

    def test_the_sequence_of_choices(self):
        """By price, then by how many offers, then as tuples; all of these choices count, and none will do."""
        offers = ((2, "own ann x\ncall ann x", 2), (4, "sum ann p = r", 1), (4, "sum ann p = x", 3), (8, "", 1))
        made = cheapest(PLAN, offers, (("hidden", (), (X,), EVEN), ("told", ("zed",), (X,), Dials(3, (3,))),))
        self.assertEqual([choice for choice, number, dial in made[1]], [choice for price, choice in sequence(offers)])
        self.assertEqual([number for choice, number, dial in made[1]], [1] * 12)
        self.assertEqual({dial for choice, number, dial in made[1]}, {3})
        first, second, third, fourth = offers
        self.assertEqual([choice for choice, number, dial in made[1]], [
            (), (second,), (fourth,), (first,), (second, fourth), (third,), (first, second), (first, fourth), (third, fourth),
            (first, second, fourth), (first, third), (first, third, fourth),
        ])

    def test_choices_that_do_not_count(self):
        # Without its line 4 the plan has no note p to hand.
        made = cheapest(PLAN, ((4, "", 1), (4, "none", 2), (5, "", 3)), (("told", (), (X,), EVEN),))
        fourth, fifth = (4, "", 1), (5, "", 3)
        self.assertEqual(made, ("none", (((), 0, 2), ((fifth,), 0, 2), ((fourth, fifth), 0, 2))))
        # No line is left at all, or there is no first line.
        self.assertEqual(cheapest(Plan("people ann"), ((1, "", 1),), (("told", (), (Sum(),), EVERY),)), ("choice", 0, (), ()))
        made = cheapest(Plan("people ann"), ((1, "", 1), (1, "own ann x", 1)), (("told", (), (X,), EVERY),))
        self.assertEqual(made, ("none", (((), 0, 2),)))

    def test_one_line_becomes_several(self):
        offer = (8, "burn ann r\nhand ann cy p\nhand ann ben q", 9)
        made = cheapest(PLAN, (offer,), (("told", ("cy",), (X,), EVERY - EVEN),))
        self.assertEqual(made, ("choice", 9, (offer,), (((), 0, 3),)))
        made = cheapest(PLAN, ((2, "own ann y\nown ann x", 1),), (("told", ("ann",), (Sum.of("y"),), EVERY),))
        self.assertEqual(made[:2], ("choice", 1))
        for text in ("\n", "burn ann r\n", "\nburn ann r", "burn ann r\n\nhand ann cy p", " "):
            made = cheapest(PLAN, ((8, text, 1),), (("told", ("cy",), (X,), EVERY),))
            self.assertEqual(made, ("none", (((), 0, 3),)))

    def test_a_name_that_is_lacking(self):
        for dials, least in ((EVERY, 2), (EVEN, 2), (~EVEN, 3), (Dials(1, (), (999999937,)), 999999937), (Dials(7, (7,), (7,)), 14)):
            for wish in (("told", ("zed",), (X,), dials), ("hidden", ("zed",), (X,), dials), ("told", ("ann",), (Sum.of("y"),), dials),
                         ("hidden", ("ben",), (X, Sum.of("p")), dials), ("told", ("ann", "zed"), (Sum(),), dials)):
                self.assertEqual(cheapest(PLAN, ((8, "", 1),), (wish,)), ("none", (((), 0, least), (((8, "", 1),), 0, least))))
        # A wish whose names an offer brings.
        offer = (1, "people ann ben cy zed", 5)
        self.assertEqual(cheapest(PLAN, (offer,), (("hidden", ("zed",), (X, R), EVERY),)), ("choice", 5, (offer,), (((), 0, 2),)))

    def test_the_first_wish_that_does_not_hold(self):
        good, bad = ("told", ("ann",), (X,), EVERY), ("told", ("ben",), (X,), EVEN)
        for wishes, number in (((bad, good), 0), ((good, bad), 1), ((good, good, bad), 2), ((good, bad, bad), 1), ((bad,) * 3, 0)):
            self.assertEqual(cheapest(PLAN, ((8, "", 1),), wishes)[1][0], ((), number, 4))

    def test_least_dials(self):
        """Of all dials of the set on which the wish does not hold."""
        for wish, dial in (
            (("told", ("ben",), (X,), EVERY), 3), (("told", ("ben",), (X,), EVEN), 4), (("told", ("ben",), (X,), Dials(4, (2,))), 6),
            (("told", ("ben",), (2 * X,), EVEN), 6), (("told", ("ben",), (2 * X,), Dials(8, (8,))), 8),
            (("told", ("ben",), (X, R), Dials(1, (), (2,))), 2), (("told", ("ben",), (R,), EVERY), 2),
            (("hidden", ("ben",), (X,), EVERY), 2), (("hidden", ("ben",), (X,), Dials(6, (1, 6))), 6),
            (("hidden", ("ben",), (X,), Dials(5, (5,), (10,))), 20), (("hidden", ("ben", "cy"), (X,), ~EVEN), 3),
            (("hidden", ("cy",), (X,), Dials(10 ** 9, (10 ** 9,))), 10 ** 9), (("hidden", ("cy",), (X,), Dials(3, (3,), (6, 12, 18))), 24),
            (("hidden", ("cy",), (X,), Dials(1, (), (3, 999999938))), 999999938),
            (("told", ("ann",), (X,), EVERY), None), (("hidden", ("ben",), (X,), ~EVEN), None), (("told", ("ben",), (X,), Dials(1, (), (2,))), None),
            (("hidden", ("ben",), (X,), Dials(1, (), (3, 5, 999999937))), None), (("hidden", (), (X, R, X, R), EVERY), None),
        ):
            made = cheapest(PLAN, ((8, "burn ann r", 1),), (wish,))
            self.assertEqual(made[-1][:1], () if dial is None else (((), 0, dial),), wish)

    def test_powers_of_a_prime(self):
        """Twice x is told by 8 x unless the dial is a multiple of 4; and 3 x tells x unless it is one of 3."""
        for many, goal, dials, least in (
            (8, 2 * X, EVERY, 4), (8, 2 * X, Dials(8, (2, 8)), 8), (8, 2 * X, EVEN - Dials(1, (), (4,)), 8), (81, 3 * X, EVERY, 9),
            (8, 2 * X, Dials(3, (3,)), 12), (3, X, Dials(2, (1,), (3,)), 9), (3, X, Dials(2, (1,), (3, 9)), 15),
            (3, X, Dials(2, (1,), (3, 6, 9)), 6), (3, X, Dials(10, (1, 5), (3, 9)), 15),
        ):
            made = cheapest(great.shown(({"x": many},), ""), ((2, "own ann x", 1),), (("told", ("ben",), (goal,), dials),))
            self.assertEqual(made[1][0], ((), 0, least), (many, dials.text))

    def test_dials_beyond_all_bounds(self):
        """The set has multiples of 10 ** 9 alone, and ben knows x but for odd multiples of 7: the least of both is greater."""
        plan = great.shown(({"x": 7},), "")
        made = cheapest(plan, ((2, "own ann x", 1),), (("told", ("ben",), (X,), Dials(10 ** 9, (10 ** 9,))),))
        self.assertEqual(made[1][0], ((), 0, 7 * 10 ** 9))


class Great(Checks):
    """TooGreat of told and hidden by any choice that counts, and nothing else."""

    def wish(self, word, group, *goals):
        return word, group, goals, Dials(1, (), (2,))

    def test_by_the_plan_itself(self):
        plan = great.shown(({"x": 1, "r": 811}, {"r": 1, "s": 809}))
        offers = ((len(plan), "", 1),)
        self.too_great(plan, offers, (self.wish("told", ("ben",), 9999 * X),))
        self.too_great(plan, offers, (self.wish("told", ("ben",), X, 9999 * X),))
        self.too_great(plan, offers, (self.wish("told", ("ann",), X), self.wish("told", ("ben",), 9999 * X)))
        self.assertEqual(cheapest(plan, offers, (self.wish("told", ("ben",), X),))[0], "none")
        self.assertEqual(cheapest(plan, offers, (self.wish("told", ("ann",), 9999 * X),)), ("choice", 0, (), ()))

    def test_by_a_choice_behind_the_told_one(self):
        plan = great.shown(({"x": 1, "r": 811}, {"r": 1, "s": 809}))
        hand = next(number for number in range(1, len(plan) + 1) if plan[number] == "hand ann ben v")
        less = plan.without(hand)
        wishes = (self.wish("told", ("ann",), X), self.wish("told", ("ben",), 4 * X), self.wish("told", ("ben",), 9998 * X))
        self.assertEqual(cheapest(less, ((2, "own ann x", 1),), wishes), ("choice", 0, (), ()))
        offer = (len(less), less[len(less)] + "\nhand ann ben v", 9)
        self.too_great(less, (offer,), wishes)
        self.assertEqual(cheapest(less, (offer,), wishes[:2]), ("choice", 0, (), ()))
        # A choice that makes no plan is none that counts.
        offer = (len(less), less[len(less)] + "\nhand ann ben v\nhand", 9)
        self.assertEqual(cheapest(less, (offer,), wishes), ("choice", 0, (), ()))

    def test_where_a_name_is_lacking(self):
        plan = great.shown(({"x": 1, "r": 811}, {"r": 1, "s": 809}))
        lacking = self.wish("told", ("ben", "zed"), 9999 * X)
        self.assertEqual(cheapest(plan, ((2, "own ann x", 1),), (lacking,))[0], "none")
        lacking = self.wish("told", ("ben",), 9999 * X, Sum.of("y"))
        self.assertEqual(cheapest(plan, ((2, "own ann x", 1),), (lacking,))[0], "none")
        self.too_great(plan, ((1, "people ann ben zed", 9),), (self.wish("told", ("ben", "zed"), 9999 * X),))

    def test_hidden(self):
        plan = great.chained(811, 809, 797)
        self.too_great(plan, ((2, "own ann x", 1),), (self.wish("hidden", ("ben",), 9998 * X),))
        self.assertEqual(cheapest(plan, ((2, "own ann x", 1),), (self.wish("hidden", ("ben",), X),))[0], "none")
        self.assertEqual(cheapest(plan, ((2, "own ann x", 1),), (self.wish("hidden", (), 9998 * X),))[0], "choice")

    def test_great_sets_on_the_way_only(self):
        """What is told, and the wish's own set, have great wholes that have no common multiple within 10 ** 9."""
        plan = great.chained(811, 809, 797)
        whole = 811 * 809 * 797
        self.assertEqual(told(plan.rows(("ben",)), X).whole, whole)
        for dials, least in (
            (Dials(10 ** 9, (10 ** 9,)), 797 * 10 ** 9), (Dials(999999937, (1,)), 797), (Dials(999999937, (999999937,)), 797 * 999999937),
            (Dials(797, (1,)), 809), (Dials(797 * 809, (1, 797, 809), (797, 809)), 811), (~Dials(2, (1,), (2 * 797,)), 2 * 809),
            (Dials(811, (811,), (811,)), 2 * 811),
        ):
            made = cheapest(plan, ((2, "own ann x", 1),), (("told", ("ben",), (X,), dials),))
            self.assertEqual(made[1][0], ((), 0, least), dials.text)
        for dials in (Dials(1, (), (2, 10 ** 9)), Dials(1, (), (6, 999999937))):
            self.assertEqual(cheapest(plan, ((2, "own ann x", 1),), (("told", ("ben",), (X,), dials),))[:2], ("choice", 0))


class Guarantees(Checks):
    def test_other_names(self):
        source = random.Random(2)
        for plan in shared.plans(32, 40, crowd=3, owns=2, draws=2, sums=4):
            offers = tuple(sorted({some_offer(source, plan) for _ in range(3)}))
            wishes = some_wishes(source, plan, offers)
            names = shared.other_names(plan.people + plan.notes + ("zed", "q"))
            other = Plan(shared.renamed_text(plan.text, names))
            new_offers = tuple((number, text and shared.renamed_text(text, names), price) for number, text, price in offers)
            new_wishes = tuple((word, shared.renamed_group(group, names), tuple(shared.renamed(goal, names) for goal in goals), dials)
                               for word, group, goals, dials in wishes)
            # Offers stand in another sequence, perhaps, and with them choices of one price and length.
            first, second = cheapest(plan, offers, wishes), cheapest(other, tuple(sorted(new_offers)), new_wishes)
            self.assertEqual((first[0], first[:-2]), (second[0], second[:-2]))
            if first[0] == "none":
                self.assertEqual(sorted((number, dial) for choice, number, dial in first[1]),
                                 sorted((number, dial) for choice, number, dial in second[1]))


class Refused(Checks):
    def test_offers(self):
        for offers in NO_OFFERS:
            self.refused(BadOffers, offers, cheapest, PLAN, offers, WISHES)

    def test_right_offers(self):
        lines = ((1, "", 1), (4, "", 9), (8, "", 1), (8, "none", 1))
        for many in (1, 2, 3, 4):
            self.assertEqual(cheapest(PLAN, lines[:many], WISHES)[0], "none")
        self.assertEqual(cheapest(PLAN, ((8, "burn ann r", 1), (8, "burn ann r", 2)), WISHES)[0], "none")

    def test_wishes(self):
        for wishes in NO_WISHES:
            self.refused(BadWishes, wishes, cheapest, PLAN, OFFERS, wishes)

    def test_right_wishes(self):
        for many in (1, 2, 3):
            self.assertEqual(cheapest(PLAN, OFFERS, (("told", ("ann",), (X,), EVEN),) * many), ("choice", 0, (), ()))
        for number in (9999, -9999):
            self.assertEqual(cheapest(PLAN, OFFERS, (("told", ("ann",), (number * X + 10 ** 12,) * 4, EVEN),))[0], "choice")
        self.assertEqual(cheapest(PLAN, OFFERS, (("hidden", ("a", "b", "c", "d", "e", "f"), (X,), EVEN),))[0], "none")

    def test_the_first_one_is_refused(self):
        plan = great.shown(({"x": 1, "r": 811}, {"r": 1, "s": 809}))
        for wrong in (None, True, ["x"], "saw?", -1, ()):
            self.refused(BadOffers, wrong, cheapest, PLAN, wrong, wrong)
            self.refused(BadWishes, wrong, cheapest, PLAN, OFFERS, wrong)
            self.refused(BadOffers, wrong, cheapest, plan, wrong, (("told", ("ben",), (9999 * X,), EVEN),))
            self.refused(BadWishes, wrong, cheapest, plan, ((2, "own ann x", 1),), wrong)
        self.assertEqual(cheapest(wishes=WISHES, offers=OFFERS, plan=PLAN), cheapest(PLAN, OFFERS, WISHES))


if __name__ == "__main__":
    unittest.main()
