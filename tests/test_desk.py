"""Section 16: a desk."""

import random
import unittest

from dialsums.desk import Desk
from dialsums.dials import Dials
from dialsums.errors import (
    BadDesk, BadNote, BadNumber, BadPeople, BadSay, BadSum, DialError, Full, NoNote, NoPerson, NothingToRedo, NothingToUndo, TooGreat,
)
from dialsums.rooms import Room, read_room
from dialsums.spreading import told
from dialsums.sums import Sum
from tests import great
from tests.samples import ANY, Refusals
from tests.test_rooms import LINES, NO_FORMS, REFUSED_FORMS, RIGHT_FORMS, history, some_deed

X = Sum.of("x")

NO_DESKS = tuple(value for value in ANY) + (
    "", " ", "10", "ann", "ann ben", "10 ", " 10 ann", "10 ann ", "10  ann", "ann  10", "10\nann", "10 ann\n", "10 ann,ben", "1 ann",
    "0 ann", "-10 ann", "1000001 ann", "999999999999 ann", "010 ann", "+10 ann", "1e3 ann", "10.0 ann", "1_000 ann", "10 ann ann",
    "10 ann ben ann", "10 a b c d e", "a b c d 10 e", "10 20 ann", "10 10 ann", "ann 10 ben 10", "10 Ann", "10 ann1", "10 abcdefghi",
    "10 ann -", "ten ann", "10 ann 5 ben", "10\tann", "-0 ann", "00 ann", "2 2", ["10", "ann"], ("10", "ann"), (10, "ann"), Room(10, ("ann",)),
    "10 a b c d d", "10 ann ben cy dan eve",
)

# Lines that have none of the forms of a desk's.
NO_LINES = tuple(line for line in NO_FORMS if line not in ("undo", "redo", "value x", "part ben x", "told - x")) + (
    "undo ", " undo", "undo 1", "undone", "Undo", "redo ", "redo x", "redo\n", "undo\n", "value", "value ", "value  x", "value x ", "value x y",
    "value x\n", "values x", "Value x", "part", "part ben", "part ben ", "part x", "part  x", "part ben  x", "part ben x ", "part  ben x",
    " part ben x", "part ben, x", "part ,ben x", "part , x", "part ann,,ben x", "part ann, ben x", "part ann ben x", "part ben 1 x",
    "part ben x + x", "part ben x+p", "part ben x + ", "part ben X", "part ben x\n", "part\nben x", "part ben\nx", "parts ben x", "part  - x",
    "told", "told ben", "told ben ", "told x", "told - ", "told -  x", "told - x ", "told , x", "told ben, x", "told - 1 x", "told - 0 x",
    "told - 02", "told - x + -1", "told - -0", "told - x\n", "tell - x", "hidden - x", "seen ben", "Told - x", "told - = x",
)


def some_desk(lines=LINES):
    """A desk at which these lines were said."""
    desk = Desk("6 ann ben")
    for line in lines:
        desk.say(line)
    return desk


class Made(Refusals):
    def test_words_in_any_sequence(self):
        for text, dial, people in (
            ("10 ann", 10, ("ann",)), ("ann 10", 10, ("ann",)), ("2 ann ben", 2, ("ann", "ben")), ("ben ann 1000000", 10 ** 6, ("ben", "ann")),
            ("d a 97 c b", 97, ("d", "a", "c", "b")), ("z abcdefgh 3", 3, ("z", "abcdefgh")),
        ):
            desk = Desk(text)
            self.assertIs(desk.room.__class__, Room)
            self.assertEqual(desk.room, Room(dial, people))
            self.assertEqual((desk.room.dial, desk.room.plan.people, desk.room.done), (dial, people, 0))
        self.assertEqual(Desk(text="10 ann").room, Room(10, ("ann",)))

    def test_no_desks(self):
        for text in NO_DESKS:
            self.refused(BadDesk, text, Desk, text)

    def test_the_room_is_one_and_the_same(self):
        desk = Desk("6 ann ben")
        room = desk.room
        desk.say("own ann x 5")
        self.assertIs(desk.room, room)
        self.assertEqual(room.journal, ("own ann x 5",))
        room.call("ann", "x")
        self.assertEqual(desk.say("value x"), "5")
        self.assertEqual(desk.say("undo"), "done")
        self.assertEqual(room.journal, ("own ann x 5",))
        self.assertRaises(AttributeError, setattr, desk, "room", room)
        self.assertIsNot(Desk("6 ann").room, Desk("6 ann").room)


class Said(Refusals):
    def unchanged(self, desk, error, value, line):
        """The line raises this very error, and changes nothing."""
        before = history(desk.room)
        with self.assertRaises(DialError) as held:
            desk.say(line)
        self.assertIs(held.exception.__class__, error, line)
        self.assertEqual(held.exception.value, value, line)
        self.assertIs(held.exception.value.__class__, value.__class__)
        self.assertEqual(history(desk.room), before)

    def test_lines_of_journals(self):
        desk = Desk("6 ann ben")
        self.assertEqual([desk.say(line) for line in LINES], ["done", "done", "3", "done", "done", "done"])
        self.assertEqual(desk.room, read_room(6, ("ann", "ben"), LINES))
        for line in RIGHT_FORMS:
            desk = some_desk()
            answer = desk.say(line)
            self.assertEqual(desk.room.journal, LINES + (line,))
            self.assertEqual(answer, str(desk.room["y"]) if line.startswith("sum") else "done")
            self.assertIs(answer.__class__, str)
        self.assertEqual(some_desk().say(line="sum ann y = 0"), "0")

    def test_errors_of_the_room_pass_on(self):
        for line, error, value in REFUSED_FORMS:
            self.unchanged(some_desk(), error, value, line)
        desk = some_desk(("own ann x 1",) + ("call ann x",) * 19)
        self.unchanged(desk, Full, "own ben y 3", "own ben y 3")
        self.unchanged(desk, Full, "sum ben y = -x", "sum ben y = -x")
        self.unchanged(desk, BadNote, "x", "own ben x 3")
        self.unchanged(desk, BadNumber, 6, "own ben y 6")

    def test_undo_and_redo(self):
        desk = some_desk()
        self.assertEqual([desk.say("undo") for _ in range(6)], ["done"] * 6)
        self.unchanged(desk, NothingToUndo, None, "undo")
        self.assertEqual([desk.say("redo") for _ in range(6)], ["done"] * 6)
        self.unchanged(desk, NothingToRedo, None, "redo")
        self.assertEqual(desk.room.journal, LINES)
        desk.say("undo")
        desk.say("call ann x")
        self.unchanged(desk, NothingToRedo, None, "redo")
        # Questions are no deeds.
        desk.say("undo")
        for line in ("value x", "part ben x", "told - x"):
            desk.say(line)
        self.unchanged(desk, BadSay, "redo now", "redo now")
        desk.say("redo")
        self.assertEqual(desk.room.journal[-1], "call ann x")

    def test_values(self):
        desk = some_desk()
        self.assertEqual([desk.say(f"value {note}") for note in "xrp"], ["5", "2", "3"])
        for note in ("y", "ann", "X", "5", "-", "x,p", "value", "x+p", "abcdefghi", "undo"):
            self.unchanged(desk, NoNote, note, f"value {note}")

    def test_parts(self):
        desk = some_desk()
        for group, people in (("-", ()), ("ann", ("ann",)), ("ben", ("ben",)), ("ann,ben", ("ann", "ben"))):
            for text in ("x", "r", "p", "2 r + x", "-x", "3 p - r + 7", "0", "-5", "9999 p", "6 x"):
                self.assertEqual(desk.say(f"part {group} {text}"), str(desk.room.part(people, Sum.of(text))))
        self.assertEqual([desk.say(f"part {group} x") for group in ("-", "ben", "ann", "ann,ben")], ["1", "2", "6", "6"])
        for text in ("y", "x + y", "10000 x", "-10000 p + 3", "ann"):
            self.unchanged(desk, BadSum, Sum.of(text), f"part ben {text}")

    def test_people(self):
        desk = some_desk()
        for group, people in (
            ("cy", ("cy",)), ("ben,ann", ("ben", "ann")), ("ann,ann", ("ann", "ann")), ("--", ("--",)), ("-,ann", ("-", "ann")), ("x", ("x",)),
            ("Ann", ("Ann",)), ("5", ("5",)), ("ann,-", ("ann", "-")), ("ann;ben", ("ann;ben",)), ("ann,ben,cy", ("ann", "ben", "cy")),
        ):
            for word in ("part", "told"):
                self.unchanged(desk, BadPeople, people, f"{word} {group} x")
        self.unchanged(desk, BadPeople, ("cy",), "part cy y")
        with self.assertRaises((BadPeople, BadSum)):
            desk.say("told cy y")

    def test_told(self):
        desk = Desk("10 ann ben")
        for line in ("own ann x 3", "draw ann r 9", "sum ann p = 2 r + x", "hand ann ben p", "sum ann q = 4 r + x"):
            desk.say(line)
        for group, text, answer in (
            ("ben", "x", "1 : - : 2"), ("ben", "p", "1 : 1 : -"), ("ben", "2 r + x", "1 : 1 : -"), ("-", "2 x", "1 : - : 2"), ("-", "x", "1 : - : -"),
            ("ann", "q", "1 : 1 : -"), ("ben", "q", "1 : - : 2"), ("ben", "2 p - q", "1 : - : 2"), ("ann,ben", "r - x", "1 : 1 : -"),
            ("-", "0", "1 : 1 : -"), ("-", "-7", "1 : 1 : -"), ("-", "p - 2 r - x", "1 : 1 : -"), ("-", "6 p", "1 : - : 2 3 6"),
        ):
            self.assertEqual(desk.say(f"told {group} {text}"), answer, (group, text))
        plan = desk.room.plan
        for text in ("x", "r", "-r + 3 x", "9999 x"):
            self.assertEqual(desk.say(f"told ben {text}"), told(plan.rows(("ben",)), Sum.of(text)).text)

    def test_sums_that_cannot_be_told(self):
        desk = some_desk()
        for text in ("y", "x + y", "ann", "2 r + x + z"):
            self.unchanged(desk, BadSum, Sum.of(text), f"told ben {text}")
        # p is 2 r + x: so the notes put in have these integers.
        for text, inside in (("10000 x", "10000 x"), ("5000 p", "10000 r + 5000 x"), ("-p - 9999 r", "-10001 r - x"), ("9999 p", "19998 r + 9999 x")):
            self.unchanged(desk, BadSum, Sum.of(inside), f"told ben {text}")
        self.assertEqual(desk.say("told ben 4999 p"), "1 : 1 : -")
        # Integers beyond the bounds that are gone when notes are put in do not matter, nor do numbers beside.
        self.assertEqual(desk.say("told - 10000 p - 20000 r - 10000 x"), "1 : 1 : -")
        self.assertEqual(desk.say("told - -6000 p + 12000 r + 12000 x"), desk.say("told - 6000 x"))
        self.assertEqual(desk.say("told - 999999"), "1 : 1 : -")

    def test_told_by_what_was_burnt(self):
        """By all that these people saw."""
        desk = Desk("6 ann ben")
        for line in ("own ann x 5", "hand ann ben x", "burn ben x"):
            desk.say(line)
        self.assertEqual((desk.say("told ben x"), desk.say("part ben x")), ("1 : 1 : -", "6"))

    def test_what_is_too_great_passes_on(self):
        plan = great.shown(({"x": 1, "r": 811}, {"r": 1, "s": 809}))
        desk = Desk("6 ann ben")
        for line in plan.text.split("\n")[1:]:
            desk.say(line + " 0" if line.split(" ")[0] in ("own", "draw") else line)
        self.assertEqual(desk.room.plan, plan)
        self.unchanged(desk, TooGreat, 10 ** 9, "told ben 9999 x")
        self.assertEqual(desk.say("told ben x"), "1 : - : 809 811 656099")

    def test_no_lines(self):
        desk = some_desk()
        for line in NO_LINES + tuple(value for value in ANY if not isinstance(value, str)) + (None, desk, ["undo"], ("undo",), 5):
            before = history(desk.room)
            self.refused(BadSay, line, desk.say, line)
            self.assertEqual(history(desk.room), before)

    def test_random_lines(self):
        source = random.Random(1)
        for _ in range(60):
            dial = source.choice((2, 6, 97))
            desk, room = Desk(f"{dial} ann ben cy"), Room(dial, ("ann", "ben", "cy"))
            for _ in range(25):
                line = some_deed(source, room)
                try:
                    answer = desk.say(line)
                except DialError as error:
                    with self.assertRaises(error.__class__) as held:
                        room += line
                    self.assertEqual(held.exception.value, error.value)
                    continue
                room += line
                self.assertEqual(answer, str(room[line.split(" ")[2]]) if line.startswith("sum") else "done")
            self.assertEqual((desk.room, desk.room.journal), (room, room.journal))


class Texts(unittest.TestCase):
    def test_what_is_told_is_the_text_of_a_set(self):
        desk = some_desk()
        for text in ("x", "2 x", "p", "12 r"):
            made = Dials.of(desk.say(f"told - {text}"))
            self.assertEqual(made, told((), Sum.of(text) if text != "p" else Sum.of("2 r + x")))

    def test_errors_of_people(self):
        self.assertRaises(NoPerson, some_desk().say, "own cy y 1")


if __name__ == "__main__":
    unittest.main()
