"""Section 15: a room."""

import random
import unittest

from dialsums.dials import Dials
from dialsums.errors import (
    BadBy, BadDial, BadJournal, BadLine, BadNote, BadNumber, BadPeople, BadSum, DialError, Full, NoNote, NoPerson, NothingToRedo,
    NothingToUndo, NoTrial,
)
from dialsums.plans import Plan
from dialsums.playing import played, seen
from dialsums.rooms import Room, read_room
from dialsums.sums import Sum
from dialsums.telling import known
from tests import shared
from tests.samples import ANY, NO_INTEGERS, NO_NAMES, Refusals
from tests.test_plans import NO_BYS, groups
from tests.test_telling import NO_DIALS

X = Sum.of("x")
LINES = ("own ann x 5", "draw ann r 2", "sum ann p = 2 r + x", "hand ann ben p", "call ben p", "burn ann r")

NO_CROWDS = tuple(value for value in ANY) + (
    "ann", ["ann"], {"ann": 1}, ("ann", "ann"), ("a", "b", "c", "d", "e"), ("Ann",), ("",), ("ann", None), ("ann", "ben "), ("ann", 1),
    ("abcdefghi",), (("ann",),), ("ann", ["ben"]), ("a", "b", "c", "d", "d"), Plan("people ann"),
)


def some_room(lines=LINES, dial=6):
    """A room in which these lines were done."""
    return read_room(dial, ("ann", "ben"), lines)


def state(room):
    """All that a room tells of itself."""
    return room.dial, room.plan.text, room.numbers, room.done, room.journal, tuple((note, room[note]) for note in room.plan.notes), len(room)


def history(room):
    """What a room tells of itself, and of what can be undone and done again."""
    told, copy = [state(room)], room.copy()
    while True:
        try:
            copy.redo()
        except NothingToRedo:
            break
        told.append(state(copy))
    copy = room.copy()
    while copy.done:
        copy.undo()
        told.append(state(copy))
    return told


class Checks(Refusals):
    def unchanged(self, room, error, value, call, *arguments, **named):
        """The call raises this very error with this very value, and changes nothing."""
        before = history(room)
        self.refused(error, value, call, *arguments, **named)
        self.assertEqual(history(room), before)

    def full(self, room, line, call, *arguments):
        """The call raises Full with this line, and changes nothing."""
        before = history(room)
        with self.assertRaises(DialError) as held:
            call(*arguments)
        self.assertIs(held.exception.__class__, Full)
        self.assertEqual(held.exception.value, line)
        self.assertEqual(history(room), before)


class Made(Checks):
    def test_a_new_room(self):
        for dial in (2, 10, 10 ** 6):
            for people in (("ann",), ("ben", "ann"), ("d", "a", "c", "b")):
                room = Room(dial, people)
                self.assertEqual(state(room), (dial, "people " + " ".join(people), (), 0, (), (), 0))
                self.assertEqual(room.plan.people, people)

    def test_dials_and_people(self):
        for dial in NO_DIALS:
            self.refused(BadDial, dial, Room, dial, ("ann",))
            self.refused(BadDial, dial, read_room, dial, ("ann",), ())
        for people in NO_CROWDS:
            self.refused(BadPeople, people, Room, 6, people)
            self.refused(BadPeople, people, read_room, 6, people, ())
        for wrong in (None, True, ["ann"], "ann"):
            self.refused(BadDial, wrong, Room, wrong, wrong)
            self.refused(BadDial, wrong, read_room, wrong, wrong, wrong)
            self.refused(BadPeople, wrong, read_room, 6, wrong, wrong)
        self.assertEqual(Room(people=("ann",), dial=6), Room(6, ("ann",)))

    def test_properties(self):
        room = some_room()
        self.assertEqual(room.plan, Plan("people ann ben\nown ann x\ndraw ann r\nsum ann p = 2 r + x\nhand ann ben p\ncall ben p\nburn ann r"))
        self.assertEqual((room.dial, room.numbers, room.done, room.journal), (6, (5, 2), 6, LINES))
        for name in ("dial", "plan", "numbers", "done", "journal"):
            self.assertRaises(AttributeError, setattr, room, name, 1)


class Deeds(Checks):
    def test_what_deeds_return(self):
        room = Room(6, ("ann", "ben"))
        self.assertIsNone(room.own("ann", "x", 5))
        self.assertIsNone(room.draw("ann", "r", 2))
        self.assertEqual(room.reckon("ann", "p", Sum.of("2 r + x")), 3)
        self.assertIsNone(room.hand("ann", "ben", "p"))
        self.assertIsNone(room.call("ben", "p"))
        self.assertIsNone(room.burn("ann", "r"))
        self.assertEqual(room.journal, LINES)
        self.assertIsNone(room.undo())
        self.assertIsNone(room.redo())

    def test_arguments_by_name(self):
        room = Room(6, ("ann", "ben"))
        room.own(number=5, note="x", person="ann")
        room.draw(number=2, note="r", person="ann")
        self.assertEqual(room.reckon(total=Sum.of("2 r + x"), note="p", person="ann"), 3)
        room.hand(note="p", other="ben", person="ann")
        room.call(note="p", person="ben")
        room.burn(note="r", person="ann")
        self.assertEqual(room.journal, LINES)
        self.assertEqual(room.seen(people=("ben",), by="has"), (("p", 3),))
        self.assertEqual(room.part(goal=X, people=("ben",)), 2)
        self.assertEqual(room.tried(keep=False, look=len), 3)

    def test_values(self):
        room = Room(10, ("ann",))
        room.own("ann", "x", 9)
        for words, value in (("x", 9), ("-x", 1), ("9 x + 99", 0), ("-9 x - 99", 0), ("7", 7), ("-7", 3), ("99", 9), ("0", 0)):
            self.assertEqual(room.reckon("ann", "p", Sum.of(words)), value)
            self.assertEqual(room["p"], value)
            room.undo()

    def test_numbers_are_within_the_dial(self):
        for dial in (2, 6, 10 ** 6):
            room = Room(dial, ("ann",))
            room.own("ann", "x", dial - 1)
            room.draw("ann", "r", 0)
            self.assertEqual(room.numbers, (dial - 1, 0))
            for number in NO_INTEGERS + (-1, dial, 10 ** 12, room, (0,)):
                self.unchanged(room, BadNumber, number, room.own, "ann", "y", number)
                self.unchanged(room, BadNumber, number, room.draw, "ann", "y", number)

    def test_people(self):
        room = some_room()
        for person in ANY + NO_NAMES + ("x", "dan", "Ann", "ann ", ("ann",), ["ann"], room, X):
            self.unchanged(room, NoPerson, person, room.own, person, "y", 1)
            self.unchanged(room, NoPerson, person, room.draw, person, "y", 1)
            self.unchanged(room, NoPerson, person, room.reckon, person, "y", X)
            self.unchanged(room, NoPerson, person, room.hand, person, "ben", "x")
            self.unchanged(room, NoPerson, person, room.hand, "ann", person, "x")
            self.unchanged(room, NoPerson, person, room.call, person, "x")
            self.unchanged(room, NoPerson, person, room.burn, person, "x")
        self.unchanged(room, NoPerson, "cy", room.hand, "cy", "dan", "x")
        self.unchanged(room, NoPerson, "dan", room.hand, "ann", "dan", "nothing")
        self.unchanged(room, NoPerson, "cy", room.hand, "cy", "cy", "x")
        self.unchanged(room, NoPerson, "ann", room.hand, "ann", "ann", "x")
        self.unchanged(room, NoPerson, "ann", room.hand, "ann", "ann", "nothing")

    def test_new_notes(self):
        room = some_room()
        for note in NO_NAMES + ("x", "r", "p", room, X, ("y",)):
            self.unchanged(room, BadNote, note, room.own, "ann", note, 1)
            self.unchanged(room, BadNote, note, room.draw, "ann", note, 1)
            self.unchanged(room, BadNote, note, room.reckon, "ann", note, X)
        for note in ("ann", "ben", "own", "y", "abcdefgh"):
            room.own("ben", note, 1)
            room.undo()

    def test_notes_that_are_had(self):
        room = some_room()
        for note in ANY + NO_NAMES + ("y", "r", "ann", room, ("p",)):
            if note != "x":
                self.unchanged(room, NoNote, note, room.hand, "ann", "ben", note)
                self.unchanged(room, NoNote, note, room.call, "ann", note)
                self.unchanged(room, NoNote, note, room.burn, "ann", note)
        self.unchanged(room, NoNote, "x", room.call, "ben", "x")
        room.hand("ann", "ben", "x")
        room.burn("ben", "x")
        self.unchanged(room, NoNote, "x", room.burn, "ben", "x")
        room.hand("ann", "ben", "x")
        room.call("ben", "x")

    def test_sums_that_cannot_be_reckoned(self):
        room = some_room()
        for total in tuple(value for value in ANY if not isinstance(value, Sum)) + (
            "x", "2 r + x", (("x", 1),), Sum.of("r"), Sum.of("r + x"), Sum.of("y"), Sum.of("ann"), Sum.of("10 x"), Sum.of("-10 x"),
            Sum.of("x + 100"), Sum.of("x - 100"), Sum((), 100), Sum((), -100), Sum((("x", 10 ** 12),)), Dials(1, ()), room, (X,),
        ):
            self.unchanged(room, BadSum, total, room.reckon, "ann", "y", total)
        self.unchanged(room, BadSum, X, room.reckon, "ben", "y", X)
        self.assertEqual(room.reckon("ben", "y", Sum.of("-9 p + 99")), 0)

    def test_rows_within_9999(self):
        room = Room(10 ** 6, ("ann",))
        room.own("ann", "x", 1)
        for note, last in (("a", "x"), ("b", "a"), ("c", "b"), ("d", "c")):
            room.reckon("ann", note, Sum.of(f"9 {last}"))
        total = Sum.of("4 a + 6 b + 4 c + d")
        for wrong in (total + X, -total - X, Sum.of("2 d")):
            self.unchanged(room, BadSum, wrong, room.reckon, "ann", "e", wrong)
        self.assertEqual(room.reckon("ann", "e", total), 9999)
        room.undo()
        self.assertEqual(room.reckon("ann", "e", -total), 10 ** 6 - 9999)
        room = Room(10, ("ann",))
        for note, words in (("a", "99"), ("b", "9 a + 99"), ("c", "9 b + 99"), ("n", "1")):
            room.reckon("ann", note, Sum.of(words))
        wrong = Sum.of("b + c + n")
        self.unchanged(room, BadSum, wrong, room.reckon, "ann", "e", wrong)
        self.assertEqual(room.reckon("ann", "e", Sum.of("b + c")), 9)

    def test_two_things_wrong_at_once(self):
        room = some_room()
        for wrong in (None, True, ["x"], "x ", -1):
            for call in (room.own, room.draw, room.reckon):
                self.unchanged(room, NoPerson, wrong, call, wrong, wrong, wrong)
                self.unchanged(room, BadNote, wrong, call, "ann", wrong, wrong)
            self.unchanged(room, BadNumber, wrong, room.own, "ann", "y", wrong)
            self.unchanged(room, NoPerson, wrong, room.hand, wrong, wrong, wrong)
            self.unchanged(room, NoPerson, wrong, room.hand, "ann", wrong, wrong)
            self.unchanged(room, NoNote, wrong, room.hand, "ann", "ben", wrong)
            self.unchanged(room, NoPerson, wrong, room.call, wrong, wrong)
            self.unchanged(room, NoPerson, wrong, room.burn, wrong, wrong)


class Places(Checks):
    """Full, behind all other errors."""

    def test_20_deeds(self):
        room = some_room(("own ann x 1",) + ("call ann x",) * 18)
        self.assertEqual(room.done, 19)
        room.call("ben", "x")
        self.full(room, "own ben y 3", room.own, "ben", "y", 3)
        self.full(room, "draw ben y 0", room.draw, "ben", "y", 0)
        self.full(room, "sum ben y = -2 x + 5", room.reckon, "ben", "y", Sum.of("-2 x + 5"))
        self.full(room, "hand ann ben x", room.hand, "ann", "ben", "x")
        self.full(room, "call ann x", room.call, "ann", "x")
        self.full(room, "burn ben x", room.burn, "ben", "x")
        self.unchanged(room, NoPerson, "cy", room.own, "cy", "x", 9)
        self.unchanged(room, BadNote, "x", room.own, "ann", "x", 9)
        self.unchanged(room, BadNumber, 9, room.own, "ann", "y", 9)
        self.unchanged(room, BadSum, 9, room.reckon, "ann", "y", 9)
        self.unchanged(room, NoNote, "y", room.hand, "ann", "ben", "y")
        room.undo()
        self.assertEqual(room.reckon("ben", "y", -2 * X + 5), 3)

    def test_four_own_and_four_drawn_numbers(self):
        for kind, other in (("own", "draw"), ("draw", "own")):
            room = Room(6, ("ann", "ben"))
            calls = {"own": room.own, "draw": room.draw}
            for person, note in (("ann", "a"), ("ben", "b"), ("ann", "c"), ("ben", "d")):
                calls[kind](person, note, 1)
            self.full(room, f"{kind} ann e 5", calls[kind], "ann", "e", 5)
            self.unchanged(room, BadNumber, 6, calls[kind], "ann", "e", 6)
            for note in "efgh":
                calls[other]("ann", note, 2)
            self.full(room, f"{other} ben i 5", calls[other], "ben", "i", 5)
            self.assertEqual(room.reckon("ann", "i", Sum.of("a")), 1)

    def test_twelve_notes(self):
        room = Room(6, ("ann",))
        for note in "abc":
            room.own("ann", note, 1)
        for note in "def":
            room.draw("ann", note, 2)
        for note in "ghijkl":
            room.reckon("ann", note, Sum.of("a + d"))
        self.assertEqual(len(room), 12)
        self.full(room, "own ann m 1", room.own, "ann", "m", 1)
        self.full(room, "draw ann m 1", room.draw, "ann", "m", 1)
        self.full(room, "sum ann m = 0", room.reckon, "ann", "m", Sum())
        wrong = Sum.of("m")
        self.unchanged(room, BadSum, wrong, room.reckon, "ann", "m", wrong)
        room.burn("ann", "a")
        self.full(room, "own ann m 1", room.own, "ann", "m", 1)
        room.undo()
        room.undo()
        room.own("ann", "m", 1)


class Looks(Checks):
    def test_notes(self):
        room = some_room()
        self.assertEqual((room["x"], room["r"], room["p"], len(room)), (5, 2, 3, 3))
        self.assertEqual([note in room for note in ("x", "r", "p", "y", "ann")], [True, True, True, False, False])
        for note in ANY + NO_NAMES + ("y", "ann", ("x",), room, X):
            if note.__class__ is not str or note not in ("x", "p"):
                self.unchanged(room, NoNote, note, room.__getitem__, note)
                self.assertIs(note in room, False)

    def test_seen(self):
        room = some_room()
        self.assertEqual(room.seen(("ann",)), (("x", 5), ("r", 2), ("p", 3)))
        self.assertEqual(room.seen(("ann",), by="has"), (("x", 5), ("p", 3)))
        self.assertEqual(room.seen(("ann",), by="saw"), (("x", 5), ("r", 2), ("p", 3)))
        self.assertEqual((room.seen(("ben",)), room.seen(())), ((("p", 3),), ()))
        for people in ANY + (["ann"], "ann", ("dan",), ("ben", "ann"), ("ann", "ann"), (None,), ("ann", 1), (["ann"],), ("x",)):
            if people != ():
                self.unchanged(room, BadPeople, people, room.seen, people)
                self.unchanged(room, BadPeople, people, room.seen, people, by=None)
                self.unchanged(room, BadPeople, people, room.part, people, X)
                self.unchanged(room, BadPeople, people, room.part, people, None)
        for by in NO_BYS:
            self.unchanged(room, BadBy, by, room.seen, ("ann",), by=by)
        self.assertRaises(TypeError, room.seen, ("ann",), "saw")

    def test_part(self):
        room = some_room()
        self.assertEqual([room.part(people, X) for people in ((), ("ann",), ("ben",), ("ann", "ben"))], [1, 6, 2, 6])
        self.assertEqual([room.part(("ben",), Sum.of(text)) for text in ("p", "2 p", "p - x", "r", "3 p + 2 r", "0", "7")], [6, 6, 2, 1, 2, 6, 6])
        # Notes are put in by their rows: 9999 p is 19998 r and 9999 x.
        self.assertEqual(room.part((), Sum.of("9999 p")), 3)
        self.assertEqual(room.part((), Sum.of("-9999 p - 9999 r - 9999 x")), 3)
        for goal in tuple(value for value in ANY if not isinstance(value, Sum)) + (
            Sum.of("y"), Sum.of("x + y"), Sum.of("ann"), Sum.of("10000 x"), Sum.of("-10000 p"), Sum((("p", 10 ** 12),)), "x", (X,), room,
        ):
            self.unchanged(room, BadSum, goal, room.part, ("ben",), goal)

    def test_part_of_burnt_notes(self):
        """What people saw counts, also if they burnt it."""
        room = some_room(("own ann x 5", "hand ann ben x", "burn ben x", "burn ann x"))
        self.assertEqual(room.part(("ben",), X), 6)
        self.assertEqual(room.seen(("ben",), by="has"), ())

    def test_equality(self):
        room = some_room()
        self.assertTrue(room == some_room())
        self.assertFalse(room != some_room())
        for other in (
            some_room(LINES[:-1]), some_room(dial=7), some_room(("own ann x 4",) + LINES[1:]), read_room(6, ("ben", "ann"), LINES),
            some_room(("draw ann r 2", "own ann x 5") + LINES[2:]),
        ):
            self.assertFalse(room == other)
            self.assertTrue(room != other)
        for value in ANY + (room.plan, room.journal, LINES, [room], (room,), 6):
            self.assertIs(room == value, False)
            self.assertIs(value == room, False)

    def test_what_was_undone_does_not_count(self):
        room = some_room()
        room.call("ann", "x")
        room.undo()
        self.assertEqual(room, some_room())

    def test_operators_that_are_not_there(self):
        room = some_room()
        for call in (lambda: room + "call ann x", lambda: room < room, lambda: -room, lambda: room(), lambda: list(room), lambda: room - 1):
            self.assertRaises(TypeError, call)
        self.assertEqual(room, some_room())


def some_deed(source, room):
    """Any line of a journal, most often one that can be done."""
    person = source.choice(room.plan.people + ("zed",) * (source.randrange(9) == 0))
    had = room.plan.has(person) if person != "zed" else ()
    note = source.choice(had + ("q",) * (not had or source.randrange(9) == 0))
    fresh = source.choice("abcdefghijklmn")
    total = Sum(tuple((name, source.choice((-9, -1, 1, 2, 9, 10))) for name in sorted(source.sample(had, min(len(had), source.randint(0, 2))))),
                source.choice((0, 0, 5, -99, 100)))
    number = source.choice((0, 1, room.dial - 1, source.randrange(room.dial), room.dial))
    return source.choice((
        f"own {person} {fresh} {number}", f"draw {person} {fresh} {number}", f"sum {person} {fresh} = {total.text}",
        f"sum {person} {fresh} = {total.text}", f"hand {person} {source.choice(room.plan.people)} {note}", f"call {person} {note}",
        f"burn {person} {note}",
    ))


def plan_line(line):
    """The line as it stands in a plan."""
    words = line.split(" ")
    return " ".join(words[:3]) if words[0] in ("own", "draw") else line


class Live(Checks):
    """Random deeds, against plans, played and read_room."""

    def test_random_deeds(self):
        source = random.Random(1)
        refused = {}
        for number in range(150):
            dial = source.choice((2, 6, 97, 10 ** 6))
            room = Room(dial, shared.PEOPLE[:source.randint(1, 4)])
            text, done, undone, numbers = room.plan.text, [], [], []
            for _ in range(40):
                how = source.randrange(12)
                if how == 0 and done:
                    room.undo()
                    undone.append(done.pop())
                elif how == 1 and undone:
                    room.redo()
                    done.append(undone.pop())
                else:
                    line = some_deed(source, room)
                    lines = "\n".join([text] + [plan_line(one) for one in done] + [plan_line(line)])
                    try:
                        Plan(lines)
                        is_right = not line.endswith(f" {dial}") or line.split(" ")[0] not in ("own", "draw")
                    except DialError:
                        is_right = False
                    try:
                        before = room
                        room += line
                        self.assertIs(room, before)
                        self.assertIs(is_right, True, line)
                        done.append(line)
                        undone = []
                    except DialError as error:
                        self.assertIs(is_right, False, (line, room.journal))
                        refused[error.__class__] = refused.get(error.__class__, 0) + 1
                self.same(room, text, done)
        self.assertEqual(set(refused), {NoPerson, BadNote, BadNumber, BadSum, NoNote, Full})

    def same(self, room, text, done):
        """The room is where these lines lead."""
        plan = Plan("\n".join([text] + [plan_line(one) for one in done]))
        numbers = tuple(int(line.split(" ")[3]) for line in done if line.split(" ")[0] in ("own", "draw"))
        self.assertEqual((room.plan, room.numbers, room.done, room.journal), (plan, numbers, len(done), tuple(done)))
        self.assertEqual(tuple((note, room[note]) for note in plan.notes), played(plan, room.dial, numbers))
        self.assertEqual(len(room), len(plan.notes))
        for group in groups(plan.people):
            for by in ("saw", "has"):
                self.assertEqual(tuple(value for note, value in room.seen(group, by=by)), seen(plan, group, room.dial, numbers, by=by))
        if plan.notes:
            goal = Sum.of(plan.notes[-1]) - 2 * Sum.of(plan.notes[0])
            row = (plan.row(plan.notes[-1]) - 2 * plan.row(plan.notes[0])) % room.dial
            if all(many <= 9999 for name, many in row.parts):
                group = plan.people[:1]
                self.assertEqual(room.part(group, goal), known(plan.rows(group), row, room.dial)[0])
        again = read_room(room.dial, plan.people, room.journal)
        self.assertEqual((again, again.journal, state(again)), (room, room.journal, state(room)))


class Undone(Checks):
    def test_undo_and_redo(self):
        room = some_room()
        states = [state(room)]
        while room.done:
            room.undo()
            states.append(state(room))
        self.assertEqual([len(one[4]) for one in states], [6, 5, 4, 3, 2, 1, 0])
        self.unchanged(room, NothingToUndo, None, room.undo)
        for expected in states[-2::-1]:
            room.redo()
            self.assertEqual(state(room), expected)
        self.unchanged(room, NothingToRedo, None, room.redo)

    def test_nothing_to_undo_or_to_redo(self):
        room = Room(6, ("ann",))
        self.unchanged(room, NothingToUndo, None, room.undo)
        self.unchanged(room, NothingToRedo, None, room.redo)
        room.own("ann", "x", 1)
        self.unchanged(room, NothingToRedo, None, room.redo)

    def test_a_new_deed_ends_what_can_be_redone(self):
        room = some_room()
        room.undo()
        room.undo()
        room.call("ann", "x")
        self.unchanged(room, NothingToRedo, None, room.redo)
        self.assertEqual(room.journal, LINES[:4] + ("call ann x",))
        room.undo()
        room.redo()
        self.assertEqual(room.journal, LINES[:4] + ("call ann x",))

    def test_a_deed_that_is_refused_is_none(self):
        room = some_room()
        room.undo()
        for error, call in ((NoPerson, lambda: room.own("cy", "y", 1)), (BadNote, lambda: room.own("ann", "x", 1)),
                            (BadLine, lambda: room.__iadd__("call ann")), (NoNote, lambda: room.burn("ben", "x"))):
            self.assertRaises(error, call)
        room.redo()
        self.assertEqual(room.journal, LINES)

    def test_a_deed_for_which_there_is_no_place_is_none(self):
        room = some_room(("own ann x 1",) + ("call ann x",) * 19)
        room.undo()
        room.redo()
        room.undo()
        self.assertRaises(BadNote, room.own, "ann", "x", 1)
        room.redo()
        self.assertRaises(Full, room.call, "ann", "x")
        self.assertEqual(room.done, 20)

    def test_numbers_are_those_that_stand(self):
        room = some_room(("own ann x 5", "draw ann r 2"))
        room.undo()
        self.assertEqual((room.numbers, "r" in room, len(room)), ((5,), False, 1))
        room.draw("ann", "r", 3)
        self.assertEqual((room.numbers, room["r"]), ((5, 3), 3))


RIGHT_FORMS = (
    "own ann y 1", "draw ben y 0", "sum ann y = 0", "sum ben y = p", "sum ben y = -9 p + 99", "hand ben ann p", "call ann x", "burn ben p",
)
# Lines with a form of a journal's, each with the error of its deed.
REFUSED_FORMS = (
    ("own cy y 1", NoPerson, "cy"), ("own Ann y 1", NoPerson, "Ann"), ("own 5 6 7", NoPerson, "5"), ("own ann x 1", BadNote, "x"),
    ("own ann Y 1", BadNote, "Y"), ("own ann abcdefghi 1", BadNote, "abcdefghi"), ("own ann y 6", BadNumber, 6),
    ("own ann y -1", BadNumber, -1), ("draw ann y 999999999999", BadNumber, 999999999999), ("draw ann - 1", BadNote, "-"),
    ("sum cy y = 0", NoPerson, "cy"), ("sum = = = 5", NoPerson, "="), ("sum ann = = 5", BadNote, "="), ("sum ann x = 5", BadNote, "x"),
    ("sum ann y = 100", BadSum, Sum((), 100)), ("sum ann y = 10 x", BadSum, Sum.of("10 x")), ("sum ann y = r", BadSum, Sum.of("r")),
    ("sum ben y = x", BadSum, X), ("sum ann y = z", BadSum, Sum.of("z")), ("hand ann cy x", NoPerson, "cy"), ("hand ann ann x", NoPerson, "ann"),
    ("hand ann ben r", NoNote, "r"), ("hand ann ben X,", NoNote, "X,"), ("call ben x", NoNote, "x"), ("call x ann", NoPerson, "x"),
    ("burn ann r", NoNote, "r"), ("burn ann \t", NoNote, "\t"),
)
NO_FORMS = (
    "", " ", "own", "own ann", "own ann y", "own ann y ", "own ann y 1 ", " own ann y 1", "own  ann y 1", "own ann y  1", "own ann y 1 2",
    "own ann y 01", "own ann y +1", "own ann y -0", "own ann y 1.", "own ann y 1_0", "own ann y x", "own ann y -", "own ann y 00",
    "Own ann y 1", "owns ann y 1", "draw ann y", "draw ann y one", "draw ann y --1", "draw ann  1", "sum ann y = ", "sum ann y =",
    "sum ann y", "sum ann y = 1 x", "sum ann y = x + x", "sum ann y = x  + p", "sum ann y = x+p", "sum ann y = x + p ", "sum ann y x",
    "sum ann = x", "sum ann  = x", "sum ann y = X", "sum ann y == x", "sum ann y = x = x", "sum ann y z = x", "hand ann ben", "hand ann x",
    "hand ann ben x y", "hand ann ben ", "hand ann  x", "call ann", "call x", "call ann x y", "call ann ", "call  x", "burn ann", "burn ann x y",
    "sums ann y = x", "add ann y = x", "sum ann y + x", "people ann ben", "round", "next x x", "undo", "redo", "value x", "part ben x", "told - x", "own ann y 1\n", "\nown ann y 1", "own ann y\n1",
    "call ann x\ncall ann x", "call ann x\n", "call ann\nx", "sum ann y = x\n", "sum ann y =\nx", "none",
)


class Lines(Checks):
    def test_lines_of_a_journal(self):
        for line in RIGHT_FORMS:
            room = some_room()
            before = room
            room += line
            self.assertIs(room, before)
            self.assertEqual(room.journal, LINES + (line,))

    def test_as_the_deed(self):
        for line, error, value in REFUSED_FORMS:
            room = some_room()
            before = history(room)
            with self.assertRaises(DialError) as held:
                room += line
            self.assertIs(held.exception.__class__, error, line)
            self.assertEqual(held.exception.value, value, line)
            self.assertIs(held.exception.value.__class__, value.__class__)
            self.assertEqual(history(room), before)

    def test_no_lines(self):
        room = some_room()
        for value in NO_FORMS + tuple(value for value in ANY if not isinstance(value, str)) + (room, X, ["call ann x"], ("call ann x",), None):
            self.unchanged(room, BadLine, value, room.__iadd__, value)
        with self.assertRaises(BadLine):
            room += 5
        self.assertEqual(room, some_room())

    def test_full_by_a_line(self):
        room = some_room(("own ann x 1",) + ("call ann x",) * 19)
        for line in ("own ann y 1", "sum ann y = -x + 9", "burn ben x"):
            self.full(room, line, room.__iadd__, line)
        self.unchanged(room, BadLine, "call", room.__iadd__, "call")

    def test_redo_behind_a_line(self):
        room = some_room()
        room.undo()
        self.assertRaises(BadLine, room.__iadd__, "undo")
        room.redo()
        room.undo()
        room += "call ann x"
        self.assertRaises(NothingToRedo, room.redo)


class Journals(Refusals):
    def wrong(self, number, lines, dial=6):
        with self.assertRaises(DialError) as held:
            read_room(dial, ("ann", "ben"), lines)
        self.assertIs(held.exception.__class__, BadJournal, lines)
        self.assertEqual((held.exception.value, held.exception.value.__class__), (number, int), lines)

    def test_a_room_is_read_back(self):
        room = some_room()
        self.assertEqual(read_room(lines=room.journal, people=("ann", "ben"), dial=6), room)
        self.assertEqual(read_room(6, ("ann", "ben"), ()), Room(6, ("ann", "ben")))
        self.assertEqual(history(some_room()), history(room))

    def test_no_tuples(self):
        for lines in ANY + (list(LINES), "\n".join(LINES), {line: 1 for line in LINES}, None):
            if not isinstance(lines, tuple):
                self.wrong(0, lines)

    def test_wrong_lines(self):
        for line in NO_FORMS + tuple(one[0] for one in REFUSED_FORMS) + tuple(value for value in ANY if not isinstance(value, str)):
            self.wrong(7, LINES + (line,))
            self.wrong(7, LINES + (line, "none"))
            self.wrong(7, LINES + (line,) + ("call ann x",) * 3)
        self.wrong(1, (None,) + LINES)
        self.wrong(2, LINES[:1] + LINES[2:])
        self.wrong(1, LINES[2:])

    def test_lines_for_which_there_is_no_place(self):
        self.wrong(21, ("own ann x 1",) + ("call ann x",) * 20)
        self.wrong(5, tuple(f"own ann {note} 1" for note in "abcde"))
        self.wrong(5, tuple(f"draw ben {note} 1" for note in "abcdefg"))
        self.wrong(13, tuple(f"sum ben {note} = 1" for note in "abcdefghijklm"))

    def test_numbers_that_are_too_great_for_the_dial(self):
        self.wrong(1, LINES, dial=5)
        self.assertEqual(read_room(10 ** 6, ("ann", "ben"), LINES)["p"], 9)


class Trials(Checks):
    def test_nothing_is_left_behind(self):
        room = some_room()
        room.undo()
        before = history(room)
        with room.trial() as held:
            self.assertIs(held, room)
            room.call("ann", "x")
            room.own("ben", "y", 1)
            self.assertEqual(room.done, 7)
        self.assertEqual(history(room), before)
        room.redo()
        self.assertEqual(room, some_room())

    def test_kept(self):
        for many in (1, 2):
            room = some_room()
            with room.trial():
                room.call("ann", "x")
                for _ in range(many):
                    self.assertIsNone(room.keep())
                room.own("ben", "y", 1)
            self.assertEqual(room.journal, LINES + ("call ann x", "own ben y 1"))

    def test_undo_and_redo_go_on_to_what_was_ahead(self):
        room = some_room()
        room.undo()
        before = history(room)
        with room.trial():
            room.redo()
            self.assertEqual(room.journal, LINES)
            for _ in range(6):
                room.undo()
            self.assertRaises(NothingToUndo, room.undo)
        self.assertEqual(history(room), before)
        with room.trial():
            room.undo()
            room.keep()
        self.assertEqual(room.journal, LINES[:4])
        room.redo()
        room.redo()
        self.assertEqual(room, some_room())

    def test_errors_pass_on(self):
        for is_kept in (False, True):
            for error in (BadNote, KeyError, KeyboardInterrupt, ZeroDivisionError):
                room = some_room()
                before = history(room)
                with self.assertRaises(error):
                    with room.trial():
                        room.call("ann", "x")
                        if is_kept:
                            room.keep()
                        raise error(1)
                self.assertEqual(history(room), before)
                self.refused(NoTrial, None, room.keep)

    def test_keep_outside(self):
        room = some_room()
        self.unchanged(room, NoTrial, None, room.keep)
        with room.trial():
            pass
        self.unchanged(room, NoTrial, None, room.keep)
        room.trial()
        self.unchanged(room, NoTrial, None, room.keep)

    def test_trials_within_trials(self):
        for outer in (False, True):
            for inner in (False, True):
                room = some_room()
                with room.trial():
                    room.call("ann", "x")
                    with room.trial():
                        room.own("ben", "y", 1)
                        if inner:
                            room.keep()
                    self.assertEqual(room.done, 8 if inner else 7)
                    if outer:
                        room.keep()
                expected = LINES + ("call ann x",) * outer + ("own ben y 1",) * (outer and inner)
                self.assertEqual(room.journal, expected)

    def test_keep_is_for_the_innermost_one(self):
        room = some_room()
        with room.trial():
            room.call("ann", "x")
            room.keep()
            with room.trial():
                room.own("ben", "y", 1)
            room.own("ben", "z", 2)
        self.assertEqual(room.journal, LINES + ("call ann x", "own ben z 2"))
        room = some_room()
        with room.trial():
            with room.trial():
                room.call("ann", "x")
                room.keep()
            self.assertEqual(room.done, 7)
        self.assertEqual(room.journal, LINES)

    def test_an_error_that_is_caught_between_two(self):
        room = some_room()
        with room.trial():
            room.call("ann", "x")
            try:
                with room.trial():
                    room.own("ben", "y", 1)
                    room.keep()
                    room.own("ben", "y", 1)
            except BadNote:
                self.assertEqual(room.journal, LINES + ("call ann x",))
            room.keep()
        self.assertEqual(room.journal, LINES + ("call ann x",))

    def test_an_error_that_is_caught_within(self):
        room = some_room()
        with room.trial():
            room.call("ann", "x")
            self.assertRaises(BadNote, room.own, "ann", "x", 1)
            room.keep()
        self.assertEqual(room.journal, LINES + ("call ann x",))

    def test_leaving_a_block_early(self):
        room = some_room()

        def look():
            with room.trial():
                room.call("ann", "x")
                return room.done

        self.assertEqual((look(), room.done), (7, 6))
        for number in range(3):
            with room.trial():
                room.call("ann", "x")
                if number == 1:
                    break
        self.assertEqual(room.done, 6)

    def test_one_block_behind_another(self):
        room = some_room()
        with room.trial():
            room.call("ann", "x")
            room.keep()
        with room.trial():
            room.own("ben", "y", 1)
        self.assertEqual(room.journal, LINES + ("call ann x",))

    def test_full_within(self):
        room = some_room(("own ann x 1",) + ("call ann x",) * 18)
        with room.trial():
            room.call("ann", "x")
            self.assertRaises(Full, room.call, "ann", "x")
        room.call("ben", "x")

    def test_in_place_within(self):
        room = some_room()
        with room.trial() as held:
            held += "call ann x"
            self.assertIs(held, room)
            self.assertEqual(room.done, 7)
        self.assertEqual(room.done, 6)


class Tried(Checks):
    def test_what_look_returns(self):
        room = some_room()
        for value in ANY:
            self.assertIs(room.tried(lambda held: value), value)
        self.assertIs(room.tried(lambda held: held), room)
        self.assertEqual(room.tried(len), 3)

    def test_nothing_is_left_behind(self):
        room = some_room()
        before = history(room)
        self.assertEqual(room.tried(lambda held: held.reckon("ann", "y", 2 * X)), 4)
        self.assertEqual(room.tried(lambda held: [held.undo() for _ in range(6)]), [None] * 6)
        self.assertEqual(history(room), before)

    def test_kept_if_keep_is_true(self):
        for keep in ANY + (1, "keep", [True], (True,)):
            room = some_room()
            room.tried(lambda held: held.call("ann", "x"), keep=keep)
            self.assertEqual(room.done, 7 if keep is True else 6, keep)
        self.assertRaises(TypeError, room.tried, len, True)

    def test_kept_by_look_itself(self):
        def look(held):
            held.call("ann", "x")
            held.keep()
            return held.done

        room = some_room()
        self.assertEqual((room.tried(look), room.done), (7, 7))

    def test_errors_pass_on(self):
        def look(held):
            held.call("ann", "x")
            held.keep()
            held.own("ann", "x", 1)

        for keep in (False, True):
            room = some_room()
            before = history(room)
            self.refused(BadNote, "x", room.tried, look, keep=keep)
            self.assertEqual(history(room), before)
            self.refused(NoTrial, None, room.keep)
            with self.assertRaises(ZeroDivisionError):
                room.tried(lambda held: held.call("ann", "x") or 1 // 0, keep=keep)
            self.assertEqual(history(room), before)

    def test_within_one_another(self):
        room = some_room()

        def look(held):
            held.call("ann", "x")
            inner = held.tried(lambda again: again.call("ben", "p") or again.done, keep=True)
            return inner, held.done, held.tried(lambda again: again.call("ben", "p") or again.done), held.done

        self.assertEqual(room.tried(look), (8, 8, 9, 8))
        self.assertEqual(room.done, 6)
        self.assertEqual(room.tried(look, keep=True), (8, 8, 9, 8))
        self.assertEqual(room.journal, LINES + ("call ann x", "call ben p"))


class Copies(Checks):
    def test_alike_and_independent(self):
        room = some_room()
        room.undo()
        copy = room.copy()
        self.assertIs(copy.__class__, Room)
        self.assertIsNot(copy, room)
        self.assertEqual((copy, history(copy)), (room, history(room)))
        before = history(room)
        copy.redo()
        copy.call("ann", "x")
        self.assertEqual(history(room), before)
        room.redo()
        self.assertEqual((room.journal, copy.journal), (LINES, LINES + ("call ann x",)))
        room.undo()
        room.own("ben", "y", 1)
        self.assertEqual(copy.journal, LINES + ("call ann x",))

    def test_a_copy_made_within_a_trial(self):
        room = some_room()
        with room.trial():
            room.call("ann", "x")
            copy = room.copy()
            self.refused(NoTrial, None, copy.keep)
            with copy.trial():
                copy.own("ben", "y", 1)
            copy.own("ben", "z", 1)
            self.assertEqual(room.done, 7)
        self.assertEqual((room.journal, copy.journal), (LINES, LINES + ("call ann x", "own ben z 1")))
        copy.undo()
        copy.undo()
        self.assertEqual(copy, room)

    def test_what_can_be_redone_is_copied(self):
        room = some_room()
        room.undo()
        room.undo()
        copy = room.copy()
        room.call("ann", "x")
        copy.redo()
        copy.redo()
        self.assertEqual(copy, some_room())
        self.assertRaises(NothingToRedo, room.redo)


if __name__ == "__main__":
    unittest.main()
