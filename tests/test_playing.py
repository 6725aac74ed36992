"""Section 9: plans that are played."""

import random
import unittest

from dialsums.errors import BadBy, BadDial, BadNumbers, BadPeople
from dialsums.plans import Plan
from dialsums.playing import played, seen
from tests import played as by_lines
from tests.samples import ANY, NO_INTEGERS, Refusals
from tests.test_plans import NO_BYS, NO_PEOPLE, PLAN, groups, some_text

MIXED = Plan(
    "people ben ann\ndraw ben r\nown ann x\nsum ann k = -7\nown ben y\nsum ann p = -3 x + 5\ncall ann p\ndraw ann s\n"
    "sum ann q = 9 p - s - x\nhand ann ben q\nburn ann x\nburn ben q"
)
LEAST = Plan("people ann")


def right_plans(seed, many):
    """So many random plans."""
    source = random.Random(seed)
    found = []
    while len(found) < many:
        text = some_text(source)
        if by_lines.read(text)[0] is None:
            found.append(Plan(text))
    return found


def some_numbers(source, plan, dial):
    """Any numbers for a plan."""
    return tuple(source.randrange(dial) for _ in plan.owns + plan.draws)


class Played(Refusals):
    def test_in_the_sequence_of_the_text(self):
        self.assertEqual(played(MIXED, 100, (1, 2, 3, 4)), (
            ("r", 1), ("x", 2), ("k", 93), ("y", 3), ("p", 99), ("s", 4), ("q", 85)))

    def test_line_by_line(self):
        source = random.Random(1)
        for plan in right_plans(1, 250):
            for dial in (2, 3, 10, 97, 10 ** 6):
                numbers = some_numbers(source, plan, dial)
                values = by_lines.play(plan.text, numbers)
                made = played(plan, dial, numbers)
                self.assertEqual(made, tuple((note, number % dial) for note, number in values.items()))
                for pair in (made,) + made:
                    self.assertIs(pair.__class__, tuple)
                for group in groups(plan.people):
                    for by, notes in (("saw", plan.saw), ("has", plan.has)):
                        had = [note for note in plan.notes if any(note in notes(person) for person in group)]
                        shown = tuple(values[note] % dial for note in had)
                        self.assertEqual(seen(plan, group, dial, numbers, by=by), shown)
                        if by == "saw":
                            self.assertEqual(seen(plan, group, dial, numbers), shown)

    def test_no_notes_at_all(self):
        self.assertEqual(played(LEAST, 2, ()), ())
        self.assertEqual(seen(LEAST, ("ann",), 2, ()), ())

    def test_no_own_and_drawn_numbers(self):
        plan = Plan("people ann\nsum ann a = -1\nsum ann b = 9 a")
        self.assertEqual(played(plan, 5, ()), (("a", 4), ("b", 1)))

    def test_bounds_of_numbers(self):
        for dial in (2, 10, 10 ** 6):
            self.assertEqual(played(PLAN, dial, (dial - 1, 0))[0], ("x", dial - 1))
            self.assertEqual(seen(PLAN, ("ann",), dial, (0, dial - 1))[:2], (0, dial - 1))

    def test_what_is_equal_stays_equal(self):
        for _ in range(2):
            self.assertEqual(played(PLAN, 10, (7, 4)), (("x", 7), ("r", 4), ("p", 5), ("q", 3)))
            self.assertEqual(seen(PLAN, ("ben",), 10, (7, 4)), (5,))


def no_numbers(dial):
    """Values that are no numbers for a plan with two lines own and draw."""
    return ANY + (
        [1, 1], (1,), (1, 1, 1), (), (1, dial), (dial, 1), (-1, 1), (1, -1), (1, True), (False, 1), (1, None), ("1", 1),
        (1, (1,)), ([1], 1), "11", {0: 1, 1: 1}, {"x": 1, "r": 1}, (("x", 1), ("r", 1)), (1, PLAN), 2, (0, 10 ** 12),
    )


class Refused(Refusals):
    def test_dials(self):
        for dial in NO_INTEGERS + (1, 0, -1, 10 ** 6 + 1, 10 ** 12, PLAN):
            self.refused(BadDial, dial, played, PLAN, dial, (0, 0))
            self.refused(BadDial, dial, seen, PLAN, ("ann",), dial, (0, 0))

    def test_numbers(self):
        for dial in (2, 10, 10 ** 6):
            for numbers in no_numbers(dial):
                self.refused(BadNumbers, numbers, played, PLAN, dial, numbers)
                self.refused(BadNumbers, numbers, seen, PLAN, ("ann",), dial, numbers)

    def test_numbers_where_none_are_asked_for(self):
        for numbers in ANY + ((0,), [], None, {}):
            if numbers != ():
                self.refused(BadNumbers, numbers, played, LEAST, 6, numbers)
                self.refused(BadNumbers, numbers, seen, LEAST, (), 6, numbers)

    def test_people(self):
        for people in NO_PEOPLE:
            self.refused(BadPeople, people, seen, PLAN, people, 10, (0, 0))
            self.refused(BadPeople, people, seen, PLAN, people, 10, (0, 0), by="has")

    def test_by(self):
        for by in NO_BYS:
            self.refused(BadBy, by, seen, PLAN, ("ann",), 10, (0, 0), by=by)

    def test_the_first_one_is_refused(self):
        for wrong in (None, True, ["ann"], "saw?", 0, [("ann", 1)]):
            self.refused(BadDial, wrong, played, PLAN, wrong, wrong)
            self.refused(BadNumbers, wrong, played, PLAN, 10, wrong)
            self.refused(BadDial, wrong, played, numbers=None, dial=wrong, plan=PLAN)
            self.refused(BadPeople, wrong, seen, PLAN, wrong, wrong, wrong, by=wrong)
            self.refused(BadDial, wrong, seen, PLAN, ("ann",), wrong, wrong, by=wrong)
            self.refused(BadNumbers, wrong, seen, PLAN, ("ann",), 10, wrong, by=wrong)
            self.refused(BadBy, wrong, seen, PLAN, ("ann",), 10, (0, 0), by=wrong)
            self.refused(BadPeople, wrong, seen, by=None, numbers=None, dial=None, people=wrong, plan=PLAN)

    def test_arguments_by_name(self):
        self.assertEqual(played(numbers=(7, 4), dial=10, plan=PLAN), played(PLAN, 10, (7, 4)))
        self.assertEqual(seen(by="has", numbers=(7, 4), dial=10, people=("ann",), plan=PLAN), (7, 5, 3))
        self.assertRaises(TypeError, seen, PLAN, ("ann",), 10, (7, 4), "saw")


if __name__ == "__main__":
    unittest.main()
