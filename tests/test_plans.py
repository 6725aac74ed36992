"""Section 8: plans."""

import random
import unittest

from dialsums.dials import Dials
from dialsums.errors import BadBy, BadLine, BadPeople, BadPlan, DialError, Needed, NoLine, NoNote, NoPerson
from dialsums.plans import Plan
from dialsums.spreading import told
from dialsums.sums import Sum
from dialsums.telling import known
from tests import played
from tests.samples import ANY, NO_INTEGERS, NO_NAMES, Refusals

TEXT = (
    "people ann ben cy\nown ann x\ndraw ann r\nsum ann p = 2 r + x\nhand ann ben p\nsum ann q = 4 r + x\nhand ann cy q\n"
    "burn ann r"
)
PLAN = Plan(TEXT)
X = Sum.of("x")

# Lines that can stand behind "people ann ben", "own ann x", "draw ben r" and "call ann x".
HEAD = "people ann ben\nown ann x\ndraw ben r\ncall ann x"
RIGHT_LINES = (
    "own ann y", "own ben ann", "own ben people", "own ann abcdefgh", "draw ann own", "draw ben ben", "sum ann p = 0",
    "sum ann p = 5", "sum ann p = -99", "sum ann p = 99", "sum ann p = x", "sum ann p = -x", "sum ann p = 9 x + 99",
    "sum ben p = -9 r - 9 x - 99", "sum ben p = r + x", "sum ben sum = r", "hand ann ben x", "hand ben ann r",
    "hand ben ann x", "call ann x", "call ben r", "call ben x", "burn ann x", "burn ben x", "burn ben r",
)
WRONG_LINES = (
    "", " ", "x", "people", "people ann ben", "people cy", "own", "own ann", "own ann ", "own  ann y", " own ann y",
    "own ann y ", "own ann  y", "own ann y z", "own cy y", "own y ann", "own ann x", "own ann r", "own ben x", "own ann Y",
    "own ann y1", "own ann abcdefghi", "own ann -", "own ann y\t", "own\tann y", "own Ann y", "Own ann y", "OWN ann y",
    "own ann 5", "own ann y 5", "own ann, y", "own ann y.", "owns ann y", "draw", "draw ann", "draw ann x", "draw ann r",
    "draw cy s", "draw ann s t", "draw ann S", "draws ann s", "sum ann p", "sum ann p =", "sum ann p = ", "sum ann p  = x",
    "sum ann p =  x", "sum ann p = x ", "sum ann p=x", "sum ann p =x", "sum ann p= x", "sum ann = x", "sum p = x",
    "sum ann p x", "sum ann p == x", "sum ann p : x", "sum cy p = x", "sum ann x = x", "sum ann r = x", "sum ann P = x",
    "sum ann p = r", "sum ann p = x + r", "sum ann p = r + x", "sum ben p = x + r", "sum ben p = r + x + y", "sum ann p = p",
    "sum ann p = 10 x", "sum ann p = -10 x", "sum ann p = x + 100", "sum ann p = x - 100", "sum ann p = 100",
    "sum ann p = -100", "sum ann p = 1 x", "sum ann p = 0 x", "sum ann p = x + 0", "sum ann p = 2x", "sum ann p = x+1",
    "sum ann p = + x", "sum ann p = - x", "sum ann p = x + x", "sum ann p = x = x", "sum ann p = ", "sum ann p = X",
    "sum ann p = 05", "sum ann p = -0", "sum ann p = x +", "sum ann p = ann", "sum ann p q = x", "sum  ann p = x",
    "hand", "hand ann", "hand ann ben", "hand ann x", "hand ann ben y", "hand ann ben r", "hand ann ann x", "hand ann cy x",
    "hand cy ann x", "hand ben ben r", "hand ann ben x x", "hand ann ben x ", "hand ann  ben x", "hand ann x ben",
    "hand ann ben cy x", "call", "call ann", "call x", "call ann r", "call cy x", "call ann y", "call ann ben x",
    "call ann x x", "call ann x ", "call  ann x", "calls ann x", "burn", "burn ann", "burn x", "burn ann r", "burn cy x",
    "burn ann y", "burn ann ben x", "burn ann x x", "burn ann x ", "round", "next x y", "undo", "own ann x 5", "# own",
    "None", "0", "-", "=", "own ann y\rown", "see ann x",
)
NO_PEOPLE = tuple(value for value in ANY if value != ()) + (
    ["ann"], "ann", {"ann": 1}, ("dan",), ("ann", "dan"), ("ben", "ann"), ("ann", "ann"), ("ann", "cy", "ben"), ("ann", None),
    (None,), ("Ann",), ("",), ("ann ",), ("ann", True), (("ann",),), (["ann"],), ("ann", 1), ("x",), ("ann", X), (PLAN,),
    ("ann", "ben", "cy", "cy"),
)
NO_BYS = ANY + ("Saw", "saws", "had", "saw ", ["saw"], ("saw",), ("has",), {"saw": 1}, PLAN, "hassaw")


class Lines(Refusals):
    def wrong(self, number, text):
        """The line with this number is the first wrong one."""
        with self.assertRaises(DialError) as held:
            Plan(text)
        self.assertIs(held.exception.__class__, BadPlan, text)
        self.assertEqual(held.exception.value, number, text)
        self.assertIs(held.exception.value.__class__, int)

    def test_no_strings(self):
        for value in ANY + (None, PLAN, [TEXT], (TEXT,), {TEXT: 1}, 0):
            if not isinstance(value, str):
                self.wrong(0, value)

    def test_people(self):
        for crowd in (("ann",), ("ann", "ben"), ("z", "a", "m"), ("d", "c", "b", "a"), ("people", "own"), ("abcdefgh",)):
            plan = Plan("people " + " ".join(crowd))
            self.assertEqual((plan.people, plan.owns, plan.draws, plan.notes, len(plan)), (crowd, (), (), (), 1))

    def test_wrong_people(self):
        for line in (
            "", " ", "people", "people ", " people ann", "people  ann", "people ann ", "people ann  ben", "people ann ann",
            "people a b a", "people a b c d e", "people Ann", "people ann1", "people abcdefghi", "people ann, ben",
            "people ann\tben", "people 1", "People ann", "peoples ann", "person ann", "ann ben", "own ann x", "people -",
            "people a b c d d", "x", "people:ann",
        ):
            self.wrong(1, line)
            self.wrong(1, line + "\nown ann x")
            self.wrong(1, line + "\n")

    def test_right_lines(self):
        for line in RIGHT_LINES:
            self.assertEqual(Plan(HEAD + "\n" + line).text, HEAD + "\n" + line)

    def test_wrong_lines(self):
        for line in WRONG_LINES:
            self.wrong(5, HEAD + "\n" + line)
            self.wrong(5, HEAD + "\n" + line + "\ncall ann x")
            self.wrong(6, HEAD + "\nown ann z\n" + line + "\n" + line)

    def test_the_first_wrong_line(self):
        for count in range(5):
            sums = "".join(f"\nsum ann {name} = 1" for name in "abcd"[:count])
            self.wrong(2 + count, "people ann" + sums + "\ncall ann nobody\nown\nburn")
        self.wrong(2, "people ann\n")
        self.wrong(2, "people ann\n\nown ann x")
        self.wrong(3, "people ann\nown ann x\n")
        self.wrong(1, "\npeople ann\nown ann x")

    def test_20_lines_behind_the_first(self):
        text = "people ann\nown ann x" + "\ncall ann x" * 19
        self.assertEqual(len(Plan(text)), 21)
        self.wrong(22, text + "\ncall ann x")
        self.wrong(22, text + "\nnone")
        self.wrong(22, text + "\n")
        self.wrong(22, text + "\ncall ann x" * 3)
        self.wrong(21, "people ann\nown ann x" + "\ncall ann x" * 18 + "\ncall ann y" + "\ncall ann x")

    def test_four_lines_own_and_four_draw(self):
        for kind, other in (("own", "draw"), ("draw", "own")):
            text = "people ann ben" + "".join(f"\n{kind} {person} {note}" for person, note in zip(
                ("ann", "ben", "ann", "ben"), "abcd"))
            self.assertEqual(Plan(text).notes, ("a", "b", "c", "d"))
            self.wrong(6, text + f"\n{kind} ann e")
            self.wrong(6, text + f"\n{kind} ben e\n{other} ann f")
            more = text + "".join(f"\n{other} ann {note}" for note in "efgh")
            self.assertEqual(len(Plan(more).notes), 8)
            self.wrong(10, more + f"\n{kind} ann i")
            self.wrong(10, more + f"\n{other} ann i")
            self.wrong(10, more + "\nsum ann a = 1")

    def test_12_notes(self):
        eight = "people ann" + "".join(f"\nown ann {name}" for name in "abcd") + "".join(
            f"\ndraw ann {name}" for name in "efgh")
        twelve = eight + "".join(f"\nsum ann {name} = a" for name in "ijkl")
        self.assertEqual(len(Plan(twelve).notes), 12)
        self.wrong(14, twelve + "\nsum ann m = a")
        self.wrong(14, twelve + "\nsum ann m = 0")
        sums = "people ann" + "".join(f"\nsum ann {name} = 7" for name in "abcdefghijkl")
        self.assertEqual(Plan(sums).row("l"), Sum((), 7))
        for line in ("sum ann m = 7", "own ann m", "draw ann m"):
            self.wrong(14, sums + "\n" + line)
        self.assertEqual(len(Plan(sums + "\ncall ann l" * 8)), 21)

    def test_integers_in_a_line_sum(self):
        head = "people ann\nown ann x\nown ann y"
        for words in ("9 x", "-9 x", "9 x - 9 y + 99", "-9 x + 9 y - 99", "99", "-99"):
            self.assertEqual(Plan(f"{head}\nsum ann p = {words}").row("p").text, words)
        for words in ("10 x", "-10 x", "9 x + 10 y", "-10 x + y", "x + 100", "x - 100", "100", "-100", "12345678 x", "9999"):
            self.wrong(4, f"{head}\nsum ann p = {words}")

    def test_rows_up_to_9999(self):
        head = "people ann\nown ann x\nsum ann a = 9 x\nsum ann b = 9 a\nsum ann c = 9 b\nsum ann d = 9 c"
        self.assertEqual(Plan(head).row("d").text, "6561 x")
        # 9999 is 6561 + 4 * 729 + 6 * 81 + 4 * 9.
        self.assertEqual(Plan(head + "\nsum ann e = 4 a + 6 b + 4 c + d").row("e").text, "9999 x")
        self.assertEqual(Plan(head + "\nsum ann e = -4 a - 6 b - 4 c - d").row("e").text, "-9999 x")
        self.wrong(7, head + "\nsum ann e = 4 a + 6 b + 4 c + d + x")
        self.wrong(7, head + "\nsum ann e = -4 a - 6 b - 4 c - d - x")
        self.wrong(7, head + "\nsum ann e = 2 d")
        self.wrong(8, head + "\nsum ann e = 4 a + 6 b + 4 c + d\nsum ann f = e + x")
        self.assertEqual(Plan(head + "\nsum ann e = 4 a + 6 b + 4 c + d\nsum ann f = e - x").row("f").text, "9998 x")

    def test_numbers_beside_in_rows_up_to_9999(self):
        head = "people ann\nsum ann a = 99\nsum ann b = 9 a + 99\nsum ann c = 9 b + 99\nsum ann n = 1"
        self.assertEqual([Plan(head).row(name).number for name in "abc"], [99, 990, 9009])
        self.assertEqual(Plan(head + "\nsum ann e = b + c").row("e").text, "9999")
        self.assertEqual(Plan(head + "\nsum ann e = -b - c").row("e").text, "-9999")
        self.wrong(6, head + "\nsum ann e = b + c + 1")
        self.wrong(6, head + "\nsum ann e = b + c + n")
        self.wrong(6, head + "\nsum ann e = -b - c - 1")
        self.assertEqual(Plan(head + "\nsum ann e = 9 b + 9 n").row("e").number, 8919)

    def test_notes_are_had_by_whoever_shows_or_reckons(self):
        head = "people ann ben cy\nown ann x\n"
        self.wrong(3, head + "call ben x")
        self.wrong(3, head + "sum ben p = x")
        self.wrong(4, head + "hand ann ben x\ncall cy x")
        self.wrong(5, head + "hand ann ben x\nburn ben x\ncall ben x")
        self.wrong(4, head + "burn ann x\ncall ann x")
        self.wrong(4, head + "burn ann x\nburn ann x")
        self.wrong(4, head + "burn ann x\nown ann x")
        self.assertEqual(Plan(head + "call ann x\nburn ann x\nhand ben ann x\nsum ann p = x\ncall cy x").has("ann"), ("x", "p"))


class Texts(Refusals):
    """Random texts, right and wrong, against a reader of its own."""

    def test_random_texts(self):
        source = random.Random(8)
        numbers = {}
        for _ in range(2500):
            text = some_text(source)
            number, table = played.read(text)
            numbers[number] = numbers.get(number, 0) + 1
            if number is not None:
                with self.assertRaises(BadPlan, msg=text) as held:
                    Plan(text)
                self.assertEqual(held.exception.value, number, text)
            else:
                self.same(Plan(text), table, text)
        self.assertGreater(numbers[None], 500)
        self.assertEqual([number for number in range(1, 23) if number not in numbers], [])

    def same(self, plan, table, text):
        """The plan tells what the table does."""
        self.assertEqual(plan.text, text)
        self.assertEqual(plan.people, tuple(table.people))
        self.assertEqual((plan.owns, plan.draws), (tuple(table.kinds["own"]), tuple(table.kinds["draw"])))
        self.assertEqual(plan.notes, tuple(table.vectors))
        for note, vector in table.vectors.items():
            row = plan.row(note)
            self.assertEqual({**dict(row.parts), **({None: row.number} if row.number else {})}, vector, text)
        for person in table.people:
            self.assertEqual(plan.saw(person), tuple(note for note in table.vectors if note in table.saw[person]))
            self.assertEqual(plan.has(person), tuple(note for note in table.vectors if note in table.has[person]))
        for group in groups(table.people):
            for by, marks in (("saw", table.saw), ("has", table.has)):
                notes = [note for note in table.vectors if any(note in marks[person] for person in group)]
                self.assertEqual(plan.rows(group, by=by), tuple(plan.row(note) for note in notes))
        lines = text.split("\n")
        self.assertEqual([plan[at + 1] for at in range(len(plan))], lines)

    def test_lines_more_and_less(self):
        source = random.Random(9)
        for _ in range(300):
            text = some_text(source)
            number, table = played.read(text)
            if number is not None:
                continue
            plan = Plan(text)
            line = some_line(source, table)
            more = text + "\n" + line
            if played.read(more)[0] is None:
                self.assertEqual((plan + line).text, more)
            else:
                self.refused(BadLine, line, lambda: plan + line)
            lines = text.split("\n")
            for at in range(len(lines)):
                rest = "\n".join(lines[:at] + lines[at + 1:])
                if len(lines) > 1 and played.read(rest)[0] is None:
                    self.assertEqual(plan.without(at + 1).text, rest)
                else:
                    self.refused(Needed, at + 1, plan.without, at + 1)


def groups(people):
    """All ascending tuples of some people."""
    people = sorted(people)
    return [tuple(one for at, one in enumerate(people) if code >> at & 1) for code in range(2 ** len(people))]


def some_line(source, table):
    """Any line, most often one that can stand there."""
    person = source.choice(table.people + ["dan"] * (source.randrange(9) == 0))
    other = source.choice(table.people)
    notes = sorted(table.has.get(person, ())) or ["x"]
    if source.randrange(8) == 0:
        notes = list(table.vectors) or ["x"]
    note = source.choice(notes)
    fresh = source.choice("abcdefghijklmnopqrstuvwxyz")
    few = sorted(source.sample(notes, source.randint(0, min(3, len(notes)))))
    total = Sum(tuple((one, source.choice((-10, -9, -3, -1, 1, 2, 7, 9, 9))) for one in few), source.choice((0, 0, 1, -99, 99, 100)))
    return source.choice((
        f"own {person} {fresh}", f"draw {person} {fresh}", f"sum {person} {fresh} = {total.text}",
        f"sum {person} {fresh} = {total.text}", f"hand {person} {other} {note}", f"call {person} {note}",
        f"burn {person} {note}",
    ))


def some_text(source):
    """Any text, perhaps of a plan."""
    people = source.sample(["ann", "ben", "cy", "dan", "eve", "x"], source.choice((1, 2, 2, 3, 3, 4, 4, 4)))
    table = played.Table(people)
    lines = ["people " + " ".join(people)]
    for _ in range(source.choice((0, 3, 8, 15, 30, 60))):
        line = some_line(source, table)
        if len(lines) < 21 and table.take(line) or source.randrange(60) == 0:
            lines.append(line)
    text = "\n".join(lines)
    if source.randrange(12) == 0:
        at = source.randrange(len(text))
        text = text[:at] + source.choice(("", " ", "\n", "x", "-", "  ")) + text[at + 1:]
    return text


class Properties(Refusals):
    def test_properties_of_a_plan(self):
        self.assertEqual(PLAN.text, TEXT)
        self.assertEqual(PLAN.people, ("ann", "ben", "cy"))
        self.assertEqual((PLAN.owns, PLAN.draws), ((("ann", "x"),), (("ann", "r"),)))
        self.assertEqual(PLAN.notes, ("x", "r", "p", "q"))

    def test_the_sequence_is_that_of_the_text(self):
        plan = Plan("people cy ann ben\ndraw cy z\nown ann y\nown cy a\nsum cy m = 3\ndraw ben b\ncall ben b")
        self.assertEqual(plan.people, ("cy", "ann", "ben"))
        self.assertEqual(plan.owns, (("ann", "y"), ("cy", "a")))
        self.assertEqual(plan.draws, (("cy", "z"), ("ben", "b")))
        self.assertEqual(plan.notes, ("z", "y", "a", "m", "b"))
        self.assertEqual(plan.saw("cy"), ("z", "a", "m", "b"))
        self.assertEqual(plan.saw("ann"), ("y", "b"))
        self.assertEqual([row.text for row in plan.rows(("ann", "cy"))], ["z", "y", "a", "3", "b"])

    def test_kinds(self):
        for value in (PLAN.people, PLAN.owns, PLAN.draws, PLAN.notes, PLAN.owns[0], PLAN.saw("ann"), PLAN.has("ann"),
                      PLAN.rows(())):
            self.assertIs(value.__class__, tuple)
        for row in PLAN.rows(("ann",)):
            self.assertIs(row.__class__, Sum)

    def test_properties_stay(self):
        for name in ("text", "people", "owns", "draws", "notes"):
            self.assertRaises(AttributeError, setattr, PLAN, name, ())


class Notes(Refusals):
    def test_rows_of_notes(self):
        self.assertEqual([PLAN.row(note).text for note in PLAN.notes], ["x", "r", "2 r + x", "4 r + x"])
        plan = Plan("people ann\nown ann x\ndraw ann r\nsum ann a = 2 r - x + 1\nsum ann b = -a + 3 x - 4\nsum ann c = a + b + 3")
        self.assertEqual([plan.row(note).text for note in "abc"], ["2 r - x + 1", "-2 r + 4 x - 5", "3 x - 1"])
        nothing = Plan("people ann\nown ann x\nsum ann a = x + 1\nsum ann b = a - x - 1")
        self.assertEqual(nothing.row("b"), Sum())

    def test_no_notes(self):
        for value in ANY + NO_NAMES + ("ann", "own", "y", "P", X, PLAN, ("x",), ["x"], {"x": 1}):
            if value != "x" or value.__class__ is not str:
                self.refused(NoNote, value, PLAN.row, value)
                self.assertIs(value in PLAN, False)
        for note in PLAN.notes:
            self.assertIs(note in PLAN, True)

    def test_burnt_notes_are_notes(self):
        self.assertIs("r" in PLAN, True)
        self.assertEqual(PLAN.row("r"), Sum.of("r"))


class People(Refusals):
    def test_saw_and_has(self):
        self.assertEqual([PLAN.saw(person) for person in PLAN.people], [("x", "r", "p", "q"), ("p",), ("q",)])
        self.assertEqual([PLAN.has(person) for person in PLAN.people], [("x", "p", "q"), ("p",), ("q",)])

    def test_shown_again(self):
        text = "people ann ben\nown ann x\nhand ann ben x\nburn ben x"
        self.assertEqual((Plan(text).saw("ben"), Plan(text).has("ben")), (("x",), ()))
        self.assertEqual(Plan(text + "\nhand ann ben x").has("ben"), ("x",))
        self.assertEqual(Plan(text + "\ncall ann x").has("ben"), ("x",))
        self.assertEqual(Plan(text + "\nhand ann ben x\nhand ann ben x").saw("ben"), ("x",))

    def test_no_person(self):
        for value in ANY + NO_NAMES + ("x", "dan", "Ann", "ann ", "an", ("ann",), ["ann"], {"ann": 1}, PLAN, PLAN.people):
            self.refused(NoPerson, value, PLAN.saw, value)
            self.refused(NoPerson, value, PLAN.has, value)

    def test_rows_of_groups(self):
        self.assertEqual(PLAN.rows(()), ())
        self.assertEqual([row.text for row in PLAN.rows(("ann",))], ["x", "r", "2 r + x", "4 r + x"])
        self.assertEqual([row.text for row in PLAN.rows(("ann",), by="has")], ["x", "2 r + x", "4 r + x"])
        self.assertEqual([row.text for row in PLAN.rows(("ann",), by="saw")], ["x", "r", "2 r + x", "4 r + x"])
        self.assertEqual([row.text for row in PLAN.rows(("ben", "cy"))], ["2 r + x", "4 r + x"])
        self.assertEqual(len(PLAN.rows(("ann", "ben", "cy"), by="has")), 3)

    def test_equal_rows_of_unlike_notes(self):
        plan = Plan("people ann\nown ann x\nsum ann y = x\nsum ann z = x")
        self.assertEqual(plan.rows(("ann",)), (X, X, X))

    def test_wrong_people(self):
        for people in NO_PEOPLE:
            self.refused(BadPeople, people, PLAN.rows, people)
            self.refused(BadPeople, people, PLAN.rows, people, by="has")
            self.refused(BadPeople, people, PLAN.rows, people, by=None)

    def test_people_ascend_though_the_text_does_not(self):
        plan = Plan("people zoe ann\nown zoe x")
        self.assertEqual(plan.rows(("ann", "zoe")), (X,))
        people = ("zoe", "ann")
        self.refused(BadPeople, people, plan.rows, people)

    def test_wrong_by(self):
        for by in NO_BYS:
            self.refused(BadBy, by, PLAN.rows, ("ann",), by=by)
            self.refused(BadBy, by, PLAN.rows, (), by=by)

    def test_by_is_passed_by_name(self):
        self.assertRaises(TypeError, PLAN.rows, ("ann",), "saw")
        self.assertEqual(PLAN.rows(by="has", people=("cy",)), PLAN.rows(("cy",), by="has"))

    def test_what_groups_know(self):
        self.assertEqual([known(PLAN.rows(group), X, 12)[0] for group in groups(PLAN.people)], [1, 12, 2, 12, 4, 12, 12, 12])
        self.assertEqual(told(PLAN.rows(("ben", "cy")), X).text, "1 : 1 : -")


class Operators(Refusals):
    def test_length_and_lines(self):
        self.assertEqual(len(PLAN), 8)
        self.assertEqual([PLAN[1], PLAN[2], PLAN[8]], ["people ann ben cy", "own ann x", "burn ann r"])

    def test_no_lines(self):
        for number in NO_INTEGERS + (0, -1, 9, 10 ** 12, PLAN, "own ann x", (1,), slice(1, 2)):
            self.refused(NoLine, number, PLAN.__getitem__, number)
            with self.assertRaises(NoLine):
                PLAN[number]
            self.refused(NoLine, number, PLAN.without, number)

    def test_one_line_more(self):
        for line in RIGHT_LINES:
            self.assertEqual((Plan(HEAD) + line).text, HEAD + "\n" + line)
            self.assertIs((Plan(HEAD) + line).__class__, Plan)
        self.assertEqual((PLAN + "call cy q").saw("ben"), ("p", "q"))
        self.assertEqual(PLAN.text, TEXT)

    def test_no_line_more(self):
        plan = Plan(HEAD)
        for line in WRONG_LINES + ("call ann x\ncall ann x", "\ncall ann x", "call ann x\n", "\n"):
            self.refused(BadLine, line, lambda: plan + line)
        for value in ANY + (None, PLAN, X, 1, ["call ann x"], ("call ann x",), Dials(1, ())):
            self.refused(BadLine, value, lambda: plan + value)
        full = Plan("people ann\nown ann x" + "\ncall ann x" * 19)
        line = "call ann x"
        self.refused(BadLine, line, lambda: full + line)

    def test_a_plan_behind_a_sign(self):
        for value in ANY:
            if not isinstance(value, Plan):
                with self.assertRaises(TypeError):
                    value + PLAN

    def test_a_plan_more(self):
        plan = Plan("people ann")
        plan += "own ann x"
        self.assertEqual(plan.text, "people ann\nown ann x")

    def test_one_line_less(self):
        self.assertEqual(PLAN.without(8).text, TEXT[:-len("\nburn ann r")])
        self.assertEqual(PLAN.without(5).text, TEXT.replace("\nhand ann ben p", ""))
        for number in (1, 2, 3, 4, 6):
            self.refused(Needed, number, PLAN.without, number)
        self.refused(Needed, 1, Plan("people ann").without, 1)
        self.assertEqual(Plan("people ann\nown ann x").without(2).text, "people ann")
        self.assertEqual(PLAN.without(number=8), PLAN.without(8))
        self.assertEqual(PLAN.text, TEXT)

    def test_equality(self):
        self.assertTrue(PLAN == Plan(TEXT))
        self.assertFalse(PLAN != Plan(TEXT))
        for other in (PLAN.without(8), PLAN + "call cy q", Plan(TEXT.replace("cy", "dan"))):
            self.assertFalse(PLAN == other)
            self.assertTrue(PLAN != other)
        # These two do the same by other texts.
        self.assertFalse(Plan("people ann\nown ann x\nown ann y") == Plan("people ann\nown ann y\nown ann x"))

    def test_equal_to_nothing_else(self):
        for value in ANY + (TEXT, (TEXT,), [PLAN], (PLAN,), PLAN.people, 8):
            self.assertIs(PLAN == value, False)
            self.assertIs(value == PLAN, False)
            self.assertIs(PLAN != value, True)

    def test_operators_that_are_not_there(self):
        for call in (
            lambda: PLAN - "burn ann r", lambda: PLAN * 2, lambda: PLAN < PLAN, lambda: -PLAN, lambda: PLAN % 2,
            lambda: PLAN | PLAN, lambda: PLAN(), lambda: ~PLAN,
        ):
            self.assertRaises(TypeError, call)


class ByName(unittest.TestCase):
    def test_arguments_by_name(self):
        self.assertEqual(Plan(text=TEXT), PLAN)
        self.assertEqual(PLAN.row(note="p").text, "2 r + x")
        self.assertEqual(PLAN.saw(person="ben"), ("p",))
        self.assertEqual(PLAN.has(person="ann"), ("x", "p", "q"))
        self.assertEqual(PLAN.rows(people=("ben",)), PLAN.rows(("ben",)))


if __name__ == "__main__":
    unittest.main()
