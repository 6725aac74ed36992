"""Section 2 over the whole interface: each function, class and method, with any values, passed in any way."""

import copy
import unittest

from dialsums.choosing import cheapest
from dialsums.comparing import agreeing, parting, shows_parting, within
from dialsums.desk import Desk
from dialsums.dials import Dials
from dialsums.errors import (
    BadBy, BadDesk, BadDial, BadFew, BadJournal, BadLooks, BadName, BadNote, BadNumber, BadNumbers, BadOffers, BadOthers, BadParts, BadPeople,
    BadPlan, BadRounds, BadRows, BadSay, BadSeen, BadShares, BadSum, BadSums, BadText, BadWhole, BadWishes, BadWord, DialError, Needed, NoLine,
    NoNote, NoPerson, Unlike,
)
from dialsums.groups import classes, knowers, strangers
from dialsums.plans import Plan
from dialsums.playing import played, seen
from dialsums.rooms import Room, read_room
from dialsums.rounds import Rounds, ever, looked, shows_ever
from dialsums.seeing import could, fitting, shows_could
from dialsums.spreading import hidden, parts, told
from dialsums.sums import Sum
from dialsums.telling import known, leak, shows_known, shows_leak
from tests.samples import ANY, deep

X = Sum.of("x")
FOUR = (Sum.of("4 x"),)
EVEN = Dials(2, (2,))
TEXT = "people ann ben\nown ann x\ndraw ann r\nsum ann p = 2 r + x\nhand ann ben p"
PLAN = Plan(TEXT)
ROUNDS = Rounds(TEXT + "\nround\ndraw ben t\ncall ann x")
JOURNAL = ("own ann x 5", "draw ann r 2", "sum ann p = 2 r + x", "hand ann ben p")
OFFERS, WISHES = ((3, "", 2),), (("told", ("ann",), (X,), EVEN),)


def room():
    """A room in which some deeds were done."""
    return read_room(6, ("ann", "ben"), JOURNAL)


def desk():
    """A desk with such a room."""
    made = Desk("6 ann ben")
    for line in JOURNAL:
        made.say(line)
    return made


# What is called, and each parameter in sequence: its right value, and the error for a wrong one (None: it is a plan or
# rounds, never wrong; bool: any value is right, and a bool is told).
CALLS = (
    (lambda: Sum, ("parts", (("x", 1),), BadParts), ("number", 5, BadNumber)),
    (lambda: Sum.of, ("text", "x", BadText)),
    (lambda: X.put, ("name", "x", BadName), ("other", X, BadSum)),
    (lambda: Dials, ("whole", 6, BadWhole), ("shares", (1,), BadShares), ("others", (6,), BadOthers)),
    (lambda: Dials.of, ("text", "2 : 2 : -", BadText)),
    (lambda: EVEN.after, ("dial", 6, BadDial)),
    (lambda: EVEN.many, ("upto", 6, BadNumber)),
    (lambda: known, ("rows", FOUR, BadRows), ("goal", X, BadSum), ("dial", 6, BadDial)),
    (lambda: shows_known, ("rows", FOUR, BadRows), ("goal", X, BadSum), ("dial", 6, BadDial), ("value", (3, (2,), (("x", 3),)), bool)),
    (lambda: leak, ("rows", FOUR, BadRows), ("goals", (X,), BadSums), ("dial", 6, BadDial)),
    (lambda: shows_leak, ("rows", FOUR, BadRows), ("goals", (X,), BadSums), ("dial", 6, BadDial), ("value", None, bool)),
    (lambda: parts, ("rows", FOUR, BadRows), ("goal", X, BadSum)),
    (lambda: told, ("rows", FOUR, BadRows), ("goal", X, BadSum)),
    (lambda: hidden, ("rows", FOUR, BadRows), ("goals", (X,), BadSums)),
    (lambda: Plan, ("text", TEXT, BadPlan)),
    (lambda: PLAN.row, ("note", "p", NoNote)),
    (lambda: PLAN.saw, ("person", "ben", NoPerson)),
    (lambda: PLAN.has, ("person", "ben", NoPerson)),
    (lambda: PLAN.rows, ("people", ("ben",), BadPeople), ("by", "has", BadBy)),
    (lambda: PLAN.without, ("number", 5, NoLine)),
    (lambda: played, ("plan", PLAN, None), ("dial", 6, BadDial), ("numbers", (5, 2), BadNumbers)),
    (lambda: seen, ("plan", PLAN, None), ("people", ("ben",), BadPeople), ("dial", 6, BadDial), ("numbers", (5, 2), BadNumbers),
     ("by", "has", BadBy)),
    (lambda: knowers, ("plan", PLAN, None), ("goal", X, BadSum), ("dial", 6, BadDial), ("by", "has", BadBy)),
    (lambda: classes, ("plan", PLAN, None), ("goal", X, BadSum), ("by", "has", BadBy)),
    (lambda: strangers, ("plan", PLAN, None), ("goal", X, BadSum), ("few", 1, BadFew), ("by", "has", BadBy)),
    (lambda: within, ("one", PLAN, None), ("other", PLAN, Unlike), ("by", "has", BadBy)),
    (lambda: agreeing, ("one", PLAN, None), ("other", PLAN, Unlike), ("by", "has", BadBy)),
    (lambda: parting, ("one", PLAN, None), ("other", PLAN, Unlike), ("dial", 6, BadDial), ("by", "has", BadBy)),
    (lambda: shows_parting, ("one", PLAN, None), ("other", PLAN, Unlike), ("dial", 6, BadDial), ("value", None, bool), ("by", "has", BadBy)),
    (lambda: fitting, ("plan", PLAN, None), ("notes", (("p", 3),), BadSeen)),
    (lambda: could, ("plan", PLAN, None), ("notes", (("p", 3),), BadSeen), ("goal", X, BadSum), ("dial", 6, BadDial)),
    (lambda: shows_could, ("plan", PLAN, None), ("notes", (("p", 3),), BadSeen), ("goal", X, BadSum), ("dial", 6, BadDial),
     ("value", (1, 2, (5, 2)), bool)),
    (lambda: cheapest, ("plan", PLAN, None), ("offers", OFFERS, BadOffers), ("wishes", WISHES, BadWishes)),
    (lambda: Rounds, ("text", ROUNDS.text, BadRounds)),
    (lambda: ROUNDS.later, ("note", "x", NoNote)),
    (lambda: looked, ("rounds", ROUNDS, None), ("looks", (("ben",),), BadLooks), ("goal", X, BadSum), ("dial", 6, BadDial)),
    (lambda: ever, ("rounds", ROUNDS, None), ("goal", X, BadSum), ("few", 1, BadFew), ("dial", 6, BadDial), ("word", "some", BadWord)),
    (lambda: shows_ever, ("rounds", ROUNDS, None), ("goal", X, BadSum), ("few", 1, BadFew), ("dial", 6, BadDial), ("value", ("comes", ((),)), bool),
     ("word", "some", BadWord)),
    (lambda: Room, ("dial", 6, BadDial), ("people", ("ann", "ben"), BadPeople)),
    (lambda: room().own, ("person", "ben", NoPerson), ("note", "y", BadNote), ("number", 3, BadNumber)),
    (lambda: room().draw, ("person", "ben", NoPerson), ("note", "y", BadNote), ("number", 3, BadNumber)),
    (lambda: room().reckon, ("person", "ann", NoPerson), ("note", "y", BadNote), ("total", X, BadSum)),
    (lambda: room().hand, ("person", "ann", NoPerson), ("other", "ben", NoPerson), ("note", "x", NoNote)),
    (lambda: room().call, ("person", "ann", NoPerson), ("note", "x", NoNote)),
    (lambda: room().burn, ("person", "ann", NoPerson), ("note", "x", NoNote)),
    (lambda: room().seen, ("people", ("ben",), BadPeople), ("by", "has", BadBy)),
    (lambda: room().part, ("people", ("ben",), BadPeople), ("goal", X, BadSum)),
    (lambda: read_room, ("dial", 6, BadDial), ("people", ("ann", "ben"), BadPeople), ("lines", JOURNAL, BadJournal)),
    (lambda: Desk, ("text", "6 ann", BadDesk)),
    (lambda: desk().say, ("line", "part ben x", BadSay)),
)

# What is told of a wrong value is its place, for these.
PLACES = (BadPlan, BadRounds, BadJournal)
BY_NAME = ("by",)
WRONG = (None, True, "Wrong ", ["x"], {"x": 1}, (None,), deep(30))


def outcome(call, values):
    """What a call tells or raises, so that it can be compared."""
    try:
        return "told", shown(call(**values))
    except DialError as error:
        return "raised", error.__class__, shown(error.value)


def shown(value):
    """A value, with rooms and desks told by what was done there."""
    if isinstance(value, Desk):
        return value.room
    return value


class Whole(unittest.TestCase):
    def right(self, parameters):
        return {name: value for name, value, error in parameters}

    def test_any_value_in_each_place(self):
        for make, *parameters in CALLS:
            for name, _, error in parameters:
                if error is None:
                    continue
                for value in ANY + WRONG:
                    before = copy.deepcopy(value) if isinstance(value, (list, dict)) else value
                    try:
                        answer = make()(**{**self.right(parameters), name: value})
                        if error is bool:
                            self.assertIsInstance(answer, bool)
                    except DialError as held:
                        # The first line is there, but it is needed.
                        expected = Needed if error is NoLine and value == 1 and value is not True else error
                        self.assertIs(held.__class__, expected, (make(), name, value))
                        if error not in PLACES:
                            self.assertIs(held.value, value)
                    self.assertEqual(value, before)

    def test_wrong_values_are_refused(self):
        for make, *parameters in CALLS:
            for name, _, error in parameters:
                for value in WRONG:
                    if error not in (None, bool):
                        with self.assertRaises(error, msg=(make(), name, value)):
                            make()(**{**self.right(parameters), name: value})

    def test_the_first_wrong_one_is_refused(self):
        for make, *parameters in CALLS:
            checked = [one for one in parameters if one[2] not in (None, bool)]
            for at, (name, _, error) in enumerate(checked):
                for value in (None, ["x"]):
                    behind = {other: value for other, _, _ in parameters[parameters.index(checked[at]):]}
                    with self.assertRaises(DialError) as held:
                        make()(**{**self.right(parameters), **behind})
                    self.assertIs(held.exception.__class__, error, (make(), name))
                    if error not in PLACES:
                        self.assertIs(held.exception.value, value)

    def test_by_position_and_by_name(self):
        for make, *parameters in CALLS:
            values = self.right(parameters)
            expected = outcome(make(), values)
            self.assertEqual(expected[0], "told", make())
            places = [value for name, value, error in parameters if name not in BY_NAME]
            named = {name: value for name, value in values.items() if name in BY_NAME}
            for many in range(len(places) + 1):
                rest = {name: value for name, value, error in parameters if name not in BY_NAME}
                rest = dict(list(rest.items())[many:])
                answer = make()(*places[:many], **dict(reversed(list(rest.items()))), **named)
                self.assertEqual(("told", shown(answer)), expected, make())
            if named:
                self.assertRaises(TypeError, make(), *places, *named.values())

    def test_what_may_be_left_out(self):
        for make, *parameters in CALLS:
            values = self.right(parameters)
            for name, usual in (("by", "saw"), ("word", "told")):
                if name in values:
                    less = {one: value for one, value in values.items() if one != name}
                    self.assertEqual(outcome(make(), less), outcome(make(), {**less, name: usual}))
        self.assertEqual((Sum(), Sum((("x", 1),))), (Sum((), 0), Sum((("x", 1),), 0)))
        self.assertEqual(Dials(2, (2,)), Dials(2, (2,), ()))
        self.assertEqual(room().tried(len), room().tried(len, keep=False))
        for make, *parameters in CALLS:
            values = self.right(parameters)
            for name in values:
                if name not in ("by", "word", "number", "others", "parts"):
                    less = {one: value for one, value in values.items() if one != name}
                    self.assertRaises(TypeError, lambda: make()(**less))

    def test_equal_calls_tell_the_same(self):
        for make, *parameters in CALLS:
            values = self.right(parameters)
            first = outcome(make(), values)
            for _ in range(2):
                self.assertEqual(outcome(make(), values), first)

    def test_methods_of_which_nothing_is_told_return_none(self):
        made = room()
        for call in (lambda: made.own("ben", "y", 1), lambda: made.draw("ben", "s", 1), lambda: made.hand("ann", "ben", "x"),
                     lambda: made.call("ben", "x"), lambda: made.burn("ben", "x"), made.undo, made.redo):
            self.assertIsNone(call())
        with made.trial():
            self.assertIsNone(made.keep())

    def test_a_call_that_raises_changes_nothing(self):
        made, said = room(), desk()
        before = made.journal, made.numbers, made.plan
        for value in WRONG:
            for call in (
                lambda: made.own(value, "y", 1), lambda: made.draw("ben", value, 1), lambda: made.reckon("ann", "y", value),
                lambda: made.hand("ann", value, "x"), lambda: made.call("ann", value), lambda: made.burn(value, "x"), lambda: made.seen(value),
                lambda: made.part(("ben",), value), lambda: made.__iadd__(value), lambda: made[value], lambda: said.say(value),
            ):
                self.assertRaises(DialError, call)
        self.assertEqual((made.journal, made.numbers, made.plan), before)
        self.assertEqual(said.room, made)


if __name__ == "__main__":
    unittest.main()
