"""Section 14: dealing anew."""

import random
import unittest
from itertools import product

from dialsums.dials import Dials
from dialsums.errors import BadDial, BadFew, BadLooks, BadRounds, BadSum, BadWord, DialError, NoNote, TooMany
from dialsums.plans import Plan
from dialsums.rounds import Rounds, ever, looked, shows_ever
from dialsums.sums import Sum
from dialsums.telling import known
from tests import dealing, shared
from tests.samples import ANY, NO_INTEGERS, NO_NAMES, Refusals
from tests.test_plans import groups
from tests.test_telling import NO_DIALS, NO_SUMS

SPLIT = (
    "people ann ben cy\nown ann x\ndraw ann b\nsum ann c = -b + x\nhand ann ben b\nhand ann cy c\nburn ann x\nburn ann b\n"
    "burn ann c"
)
STILL = Rounds(SPLIT + "\nround\ndraw ben t\ncall ben b")
ANEW_LINES = "draw ben t\nhand ben cy t\nsum ben d = b + t\nsum cy e = c - t\nnext b d\nnext c e"
ANEW = Rounds(SPLIT + "\nround\n" + ANEW_LINES)
CLOSED = (((1, 0, 5), (0, 1, 0), (0, 0, 6)), ((1, 5, 0), (0, 6, 0), (0, 0, 1)), ((1, 5, 5), (0, 6, 0), (0, 0, 6)))
X = Sum.of("x")

# In each round x is added to b, of which the plan tells: as many knowledges as the dial has marks, if nobody is looked at.
ADDING = (
    "people ann ben\nown ann x\ndraw ann b\ncall ann b\nburn ann b\nround\nhand ann ben x\nsum ben c = b + x\nnext b c"
)

# The three lines with which a round of HEAD can begin, and lines that can or cannot follow.
HEAD = "people ann ben\nown ann x\nown ben y\ndraw ann s\nburn ann s\nround"
RIGHT_LINES = (
    "draw ann t", "draw ben ann", "draw ben round", "draw ben next", "sum ann t = x", "sum ann t = 9 x + 99", "sum ann t = -99",
    "sum ann t = 0", "sum ben t = -9 y", "hand ann ben x", "hand ben ann y", "call ann x", "call ben y",
)
WRONG_LINES = (
    "", " ", "x", "round", "people ann ben", "own ann t", "own ann x", "draw", "draw ann", "draw ann x", "draw ann y",
    "draw ann s", "draw cy t", "draw ann t u", "draw ann T", "draw ann ", "draw  ann t", " draw ann t", "draw ann t ",
    "draw ann abcdefghi", "sum ann t = y", "sum ann t = s", "sum ann x = x", "sum ann s = x", "sum ann t = 10 x",
    "sum ann t = x + 100", "sum ann t = x + y", "sum ann t x", "sum ann t =", "sum ann t = 1 x", "sum cy t = 0", "hand ann ben s",
    "hand ann ben y", "hand ann ann x", "hand ann cy x", "hand ann x", "hand ann ben x y", "call ann y", "call ann s", "call x",
    "call ann x x", "burn ann x", "burn ben y", "burn ann s", "burn ann y", "burn x", "next", "next x", "next x x", "next y y",
    "undo", "None", "0",
)


class Lines(Refusals):
    def wrong(self, number, text):
        """The line with this number is the first wrong one."""
        with self.assertRaises(DialError) as held:
            Rounds(text)
        self.assertIs(held.exception.__class__, BadRounds, text)
        self.assertEqual(held.exception.value, number, text)
        self.assertIs(held.exception.value.__class__, int)

    def test_no_strings(self):
        for value in ANY + (STILL, Plan(SPLIT), [SPLIT], (STILL.text,), {STILL.text: 1}):
            if not isinstance(value, str):
                self.wrong(0, value)

    def test_right_lines(self):
        for line in RIGHT_LINES:
            self.assertEqual(Rounds(HEAD + "\n" + line).text, HEAD + "\n" + line)
            self.assertEqual(Rounds(HEAD + "\ncall ann x\n" + line).plan.text, HEAD[:-len("\nround")])

    def test_wrong_lines(self):
        for line in WRONG_LINES:
            self.wrong(7, HEAD + "\n" + line)
            self.wrong(7, HEAD + "\n" + line + "\ncall ann x")
            if not line.startswith("next "):
                self.wrong(9, HEAD + "\ndraw ann k\nsum ben l = 3\n" + line + "\n" + line)

    def test_lines_of_the_plan(self):
        self.wrong(1, "")
        self.wrong(1, "round")
        self.wrong(1, "round\ncall ann x")
        self.wrong(1, "people\nround\ncall ann x")
        self.wrong(2, "people ann\ncall ann x\nround\ncall ann x")
        self.wrong(3, "people ann\nown ann x\nnext x x\nround\ncall ann x")
        self.wrong(2, "people ann\n\nround\ndraw ann x")
        self.wrong(3, "people ann\nown ann x\nRound\ncall ann x")
        self.wrong(3, "people ann\nown ann x\nround \ncall ann x")
        text = "people ann\nown ann x" + "\ncall ann x" * 19
        self.assertEqual(len(Rounds(text + "\nround\ncall ann x").plan), 21)
        self.wrong(22, text + "\ncall ann x\nround\ncall ann x")

    def test_lines_that_are_missing(self):
        self.wrong(2, "people ann")
        self.wrong(3, "people ann\nown ann x")
        self.wrong(4, "people ann\nown ann x\nround")
        self.wrong(3, "people ann\nround")
        self.wrong(10, SPLIT)
        self.wrong(11, SPLIT + "\nround")
        self.wrong(11, SPLIT + "\nround\n")
        self.wrong(22, "people ann\nown ann x" + "\ncall ann x" * 19)
        self.assertEqual(Rounds("people ann\nround\ndraw ann t").kept, ())

    def test_four_kept_notes_and_five(self):
        lines = ["people ann ben"] + [f"draw ann {note}" for note in "abcd"]
        four = "\n".join(lines)
        self.assertEqual(Rounds(four + "\nround\ncall ann a").kept, ("a", "b", "c", "d"))
        five = four + "\nown ben e"
        self.wrong(7, five + "\nround\ncall ann a")
        self.wrong(7, five + "\nround")
        self.wrong(7, five + "\nround\nnone")
        self.wrong(7, five)
        self.assertEqual(Rounds(five + "\nburn ben e\nround\ncall ann a").kept, ("a", "b", "c", "d"))
        self.wrong(8, five + "\nhand ann ben a\nround\ncall ann a")

    def test_no_line_one_line_twelve_and_thirteen(self):
        self.wrong(7, HEAD)
        for many in (1, 2, 11, 12):
            self.assertEqual(len(Rounds(HEAD + "\ncall ann x" * many).calls), many)
            self.assertEqual(Rounds(HEAD + "\ncall ann x" * many + "\nnext y y").later("y").text, "y")
        self.wrong(19, HEAD + "\ncall ann x" * 13)
        self.wrong(19, HEAD + "\ncall ann x" * 12 + "\nhand ann ben x")
        self.wrong(19, HEAD + "\ncall ann x" * 12 + "\ndraw ann t\nnext y y")

    def test_four_lines_draw(self):
        text = "people ann\ndraw ann a\ndraw ann b\ndraw ann c\ndraw ann d\nround"
        four = text + "".join(f"\ndraw ann {note}" for note in "efgh")
        self.assertEqual(len(Rounds(four).kept), 4)
        self.wrong(11, four + "\ndraw ann i")
        self.assertEqual(Rounds(four + "\nsum ann i = a + h\ncall ann i").calls[0].text, "a + h")

    def test_twelve_notes(self):
        text = "people ann\ndraw ann a\ndraw ann b\nsum ann c = a\nsum ann d = b\nsum ann z = 1\nburn ann z\nround"
        eight = text + "".join(f"\nsum ann {note} = a" for note in "efghijkl")
        self.assertEqual(len(Rounds(eight).kept), 4)
        self.wrong(17, eight + "\nsum ann m = a")
        self.wrong(17, eight + "\ndraw ann m")
        self.assertEqual(len(Rounds(eight + "\ncall ann l").calls), 1)
        few = "people ann\nround" + "".join(f"\nsum ann {note} = 1" for note in "efghijklmnop")
        self.assertEqual(Rounds(few).kept, ())
        self.wrong(15, few + "\ncall ann e")

    def test_names_of_the_plan_are_not_new(self):
        for note in ("x", "y", "s"):
            self.wrong(7, HEAD + f"\ndraw ann {note}")
            self.wrong(8, HEAD + f"\ndraw ann t\nsum ann {note} = x")
        self.wrong(8, HEAD + "\ndraw ann t\ndraw ben t")
        self.wrong(9, HEAD + "\ndraw ann t\nburn ann t\ndraw ben t")
        Rounds(HEAD + "\ndraw ann ann\ndraw ben ben")

    def test_new_notes_are_burnt_and_kept_ones_are_not(self):
        Rounds(HEAD + "\ndraw ann t\nburn ann t")
        self.wrong(9, HEAD + "\ndraw ann t\nburn ann t\nburn ann t")
        self.wrong(8, HEAD + "\nhand ann ben x\nburn ben x")
        self.wrong(8, HEAD + "\ncall ann x\nburn ann x")
        self.wrong(7, HEAD + "\nburn ann x")

    def test_rows_up_to_9999(self):
        head = HEAD + "\nsum ann a = 9 x\nsum ann b = 9 a\nsum ann c = 9 b\nsum ann d = 9 c"
        Rounds(head + "\nsum ann e = 4 a + 6 b + 4 c + d")
        self.wrong(11, head + "\nsum ann e = 4 a + 6 b + 4 c + d + x")
        self.wrong(11, head + "\nsum ann e = 2 d")
        # In a round notes are reckoned from kept ones, not from what the plan reckoned these from.
        text = "people ann\nown ann x\nsum ann a = 9 x\nsum ann b = 9 a\nsum ann c = 9 b\nburn ann x\nburn ann a\nburn ann b\nround"
        self.assertEqual(Rounds(text + "\nsum ann d = 9 c\nsum ann e = 9 d\ncall ann e").calls[0].text, "81 c")

    def test_lines_next(self):
        head = HEAD + "\ndraw ann t\ndraw ben u\nsum ann v = t\nhand ann ben v"
        for line, row in (("next x t", "t"), ("next x x", "x"), ("next y u", "u"), ("next y y", "y")):
            self.assertEqual(Rounds(head + "\n" + line).later(line[5]).text, row)
        for line in (
            "next x u", "next x y", "next x v", "next y t", "next y v", "next t t", "next t x", "next s x", "next x s", "next z x",
            "next x z", "next z z", "next z q", "next s s", "next s z", "next ann ann", "next ann x", "next x ann", "next x", "next x t t", "next", "next  x t", "next x  t", "next x t ", "next x T",
            "Next x t", "nexts x t",
        ):
            self.wrong(11, head + "\n" + line)
            self.wrong(12, head + "\nnext y u\n" + line)
        self.wrong(12, head + "\nnext x t\nnext x t")
        self.wrong(12, head + "\nnext x t\nnext x x")
        self.wrong(12, head + "\nnext x t\ncall ann x")
        self.wrong(12, head + "\nnext x t\n")
        self.wrong(13, head + "\nnext x t\nnext y u\nnext x x")
        self.wrong(7, HEAD + "\nnext x x")

    def test_next_of_a_note_that_other_people_have(self):
        text = "people ann ben cy\nown ann x\nhand ann ben x\nround\ndraw ann t"
        self.wrong(6, text + "\nnext x t")
        self.assertEqual(Rounds(text + "\nhand ann ben t\nnext x t").later("x").text, "t")
        self.wrong(7, text + "\ncall ann t\nnext x t")
        self.assertEqual(Rounds(text + "\ncall ann t\nhand ann cy t\ncall ben x").calls[1].text, "x")
        # A kept note that is shown in the round is had by others at its end.
        self.wrong(7, "people ann ben\nown ann x\ndraw ann b\nround\ncall ann x\ndraw ann t\nnext b x")
        self.wrong(6, "people ann ben\nown ann x\ndraw ann b\nround\nhand ann ben x\nnext x x")
        self.assertEqual(Rounds("people ann\nown ann x\nround\ncall ann x\nnext x x").later("x").text, "x")
        # Ben had it in the round, and has it no more at its end.
        self.wrong(9, text + "\nhand ann cy t\nhand ann ben t\nburn ben t\nnext x t")
        self.assertEqual(Rounds(text + "\ncall ann t\nburn cy t\nnext x t").later("x").text, "t")

    def test_a_note_in_more_than_one_line_next(self):
        text = "people ann\ndraw ann a\ndraw ann b\ndraw ann c\ndraw ann d\nround\nsum ann e = a + b"
        made = Rounds(text + "\nnext a e\nnext b e\nnext c a\nnext d c")
        self.assertEqual([made.later(note).text for note in "abcd"], ["a + b", "a + b", "a", "c"])
        made = Rounds(text + "\nnext a b\nnext b a")
        self.assertEqual([made.later(note).text for note in "abcd"], ["b", "a", "c", "d"])
        self.wrong(12, text + "\nnext a e\nnext b e\nnext c a\nnext d c\nnext e a")


class Properties(Refusals):
    def test_properties(self):
        self.assertEqual((ANEW.text, ANEW.plan, ANEW.kept, ANEW.calls), (SPLIT + "\nround\n" + ANEW_LINES, Plan(SPLIT), ("b", "c"), ()))
        self.assertEqual([row.text for row in STILL.calls], ["b"])
        for value in (ANEW.kept, ANEW.calls, STILL.calls):
            self.assertIs(value.__class__, tuple)
        for name in ("text", "plan", "kept", "calls"):
            self.assertRaises(AttributeError, setattr, ANEW, name, ())

    def test_kept_stands_in_the_sequence_of_the_plan(self):
        made = Rounds("people ann ben\ndraw ben z\nown ann y\nsum ben a = 3 z\nown ann b\nburn ann y\nround\ncall ann b")
        self.assertEqual(made.kept, ("z", "a", "b"))

    def test_calls_line_by_line(self):
        made = Rounds(HEAD + "\ncall ann x\ndraw ann t\nsum ann u = 2 t - x + 3\ncall ann u\ncall ben u\ncall ben x")
        self.assertEqual([row.text for row in made.calls], ["x", "2 t - x + 3", "2 t - x + 3", "x"])

    def test_later(self):
        self.assertEqual([ANEW.later(note).text for note in ("b", "c")], ["b + t", "c - t"])
        self.assertEqual([STILL.later(note).text for note in ("b", "c")], ["b", "c"])
        self.assertEqual(ANEW.later(note="b").text, "b + t")
        for value in ANY + NO_NAMES + ("x", "t", "d", "e", "ann", ("b",), ["b"], {"b": 1}, ANEW, X):
            self.refused(NoNote, value, ANEW.later, value)

    def test_equality(self):
        self.assertTrue(ANEW == Rounds(text=ANEW.text))
        self.assertFalse(ANEW != Rounds(ANEW.text))
        self.assertTrue(ANEW != STILL)
        swapped = Rounds(SPLIT + "\nround\n" + ANEW_LINES.replace("next b d\nnext c e", "next c e\nnext b d"))
        self.assertFalse(ANEW == swapped)
        for value in ANY + (ANEW.text, ANEW.plan, (ANEW,), [ANEW]):
            self.assertIs(ANEW == value, False)
            self.assertIs(value == ANEW, False)

    def test_operators_that_are_not_there(self):
        for call in (lambda: ANEW + "call ben b", lambda: ANEW < STILL, lambda: len(ANEW), lambda: ANEW["b"], lambda: "b" in ANEW):
            self.assertRaises(TypeError, call)


def wrong_line(text):
    """The number of the first wrong line of rounds, None if there is none."""
    try:
        Rounds(text)
    except BadRounds as error:
        return error.value
    return None


def renamed_anyway(text, names):
    """The text by other names, also if there are some that nobody has."""
    return shared.renamed_text(text, {**shared.other_names(("ann", "x", "h")), **names})


class Looked(Refusals):
    def test_against_known_of_the_rows_written_out(self):
        source = random.Random(1)
        parts = set()
        for _ in range(120):
            rounds = dealing.some_rounds(source)
            goal = own_goal(source, rounds)
            for dial in (2, 3, 4, 6, 12, 360, 997):
                looks = tuple(source.choice(groups(rounds.plan.people)) for _ in range(source.randint(0, 4)))
                rows = tuple(row % dial for row in dealing.seen_rows(rounds, looks))
                if len(rows) <= 12:
                    made = looked(rounds, looks, goal, dial)
                    self.assertEqual(made, known(rows, goal, dial)[0], (rounds.text, looks, goal.text, dial))
                    parts.add((made, dial))
        self.assertGreater(len(parts), 20)

    def test_some(self):
        self.assertEqual(looked(ANEW, (), X, 6), 1)
        self.assertEqual(looked(ANEW, (("ben",), ("cy",)), X, 6), 1)
        self.assertEqual(looked(ANEW, (("ben", "cy"),), X, 6), 6)
        self.assertEqual(looked(STILL, (("ben",), ("cy",)), X, 6), 6)
        # Behind one look nothing was called in a round yet.
        self.assertEqual(looked(STILL, (("cy",),), X, 6), 1)
        self.assertEqual(looked(STILL, (("cy",), ()), X, 6), 6)
        self.assertEqual(looked(STILL, ((), ("cy",)), 4 * X + 7, 6), 6)
        self.assertEqual(looked(STILL, ((), ()), 4 * X + 7, 6), 2)

    def test_an_own_number_that_is_kept_is_called_otherwise_later(self):
        """In a round x is the kept note, which is b from the next round on; the own number x stays what it was."""
        text = "people ann ben\nown ann x\ndraw ann b\nround\ndraw ann t\nnext x b"
        made = Rounds(text)
        self.assertEqual(looked(made, ((), ("ann",)), X, 10), 1)
        self.assertEqual(looked(made, (("ann",),), X, 10), 10)
        self.assertEqual(looked(Rounds(text.replace("next x b", "next b x")), ((), ("ann",)), X, 10), 10)

    def test_300_looks(self):
        for many in (1, 2, 299, 300):
            self.assertEqual(looked(ANEW, (("ben",),) * many, X, 10 ** 6), 1)
        self.assertEqual(looked(ANEW, (("ben",),) * 299 + (("ben", "cy"),), X, 10 ** 6), 10 ** 6)
        looks = (("ben",),) * 301
        self.refused(BadLooks, looks, looked, ANEW, looks, X, 10 ** 6)

    def test_what_is_told_little_by_little(self):
        """In each round b is called, and then 10 b; on a dial with 1000 marks so much of x is left each time."""
        made = Rounds("people ann\nown ann x\nsum ann b = x\nburn ann x\nround\nsum ann c = 5 b\nsum ann d = 2 c\nnext b d")
        self.assertEqual([looked(made, ((),) * many + (("ann",),), X, 1000) for many in range(5)], [1000, 100, 10, 1, 1])

    def test_looks_that_are_none(self):
        for looks in tuple(value for value in ANY if value not in ((), (1,), ((), ((), [])))) + (
            (1,), [("ben",)], ("ben",), (["ben"],), (("dan",),), (("cy", "ben"),), (("ben", "ben"),), (("ben",), None), (("ben",), "cy"),
            (("ben", 1),), ((True,),), (("ben",), ("x",)), {("ben",): 1}, ((), [()]), ((),) * 300 + ("ann",), ANEW,
        ):
            self.refused(BadLooks, looks, looked, ANEW, looks, X, 6)

    def test_the_first_one_is_refused(self):
        for wrong in (None, True, ["x"], "saw?", -1):
            self.refused(BadLooks, wrong, looked, ANEW, wrong, wrong, wrong)
            self.refused(BadSum, wrong, looked, ANEW, (), wrong, wrong)
            self.refused(BadDial, wrong, looked, ANEW, (), X, wrong)
        self.assertEqual(looked(dial=6, goal=X, looks=(("ben",), ("cy",)), rounds=STILL), 6)


def own_goal(source, rounds):
    """A random Sum of own numbers that is not 0 altogether."""
    names = sorted(note for person, note in rounds.plan.owns)
    return Sum(tuple((name, source.choice((1, 1, 2, 3, -1, 4))) for name in names if source.randrange(4) or name == names[0]))


class Ever(Refusals):
    def test_against_a_search_of_its_own(self):
        source = random.Random(2)
        kinds = {}
        for _ in range(130):
            rounds = dealing.some_rounds(source)
            goal = own_goal(source, rounds)
            for dial in (2, 3, 4, 6):
                search = dealing.Search(rounds, dial)
                if dial ** search.width > 300:
                    continue
                few = source.randint(0, 2)
                found = search.all_known([group for group in groups(rounds.plan.people) if len(group) <= few])
                for word in ("told", "some"):
                    made = ever(rounds, goal, few, dial, word)
                    self.right(search, goal, few, word, found, made)
                    kinds[made[0], word] = kinds.get((made[0], word), 0) + 1
        self.assertEqual([kinds[answer, word] > 20 for answer in ("comes", "never") for word in ("told", "some")], [True] * 4)

    def right(self, search, goal, few, word, found, made):
        """What ever tells is right by the search."""
        rounds, dial = search.rounds, search.dial
        self.assertEqual((made.__class__, len(made)), (tuple, 2))
        self.assertIs(shows_ever(rounds, goal, few, dial, made, word), True)
        if search.is_known(search.first(), goal, word):
            self.assertEqual(made, ("comes", ()))
            return
        coming = [looks for seen, looks in found.items() if search.is_known(seen, goal, word)]
        if coming:
            self.assertEqual((made[0], len(made[1])), ("comes", min(map(len, coming))), rounds.text)
            self.assertLessEqual(max(map(len, made[1])), few)
            part, least = looked(rounds, made[1], goal, dial), known((), goal, dial)[0]
            self.assertTrue(part == dial if word == "told" else part > least)
            return
        self.assertEqual(made[0], "never")
        self.assertEqual(list(made[1]), sorted(set(made[1])))
        sets = {dealing.all_sums(rows, search.width, dial) for rows in made[1]}
        self.assertEqual(sets, set(found))

    def test_some(self):
        self.assertEqual(ever(ANEW, X, 1, 6), ("never", CLOSED))
        self.assertEqual(ever(ANEW, X, 2, 6), ("comes", (("ben", "cy"),)))
        self.assertEqual(ever(ANEW, X, 0, 6)[0], "never")
        self.assertEqual(len(ever(STILL, X, 1, 6)[1]), 2)
        self.assertEqual(ever(STILL, X, 0, 6)[0], "never")
        self.assertEqual(ever(ANEW, X, 1, 6, "some"), ("never", CLOSED))
        self.assertEqual(ever(ANEW, X, 1, 6, word="told"), ("never", CLOSED))
        self.assertEqual(ever(ANEW, 6 * X, 0, 6), ("comes", ()))
        self.assertEqual(ever(ANEW, 6 * X, 0, 6, "some")[0], "never")
        self.assertEqual(ever(ANEW, Sum((), 5), 0, 6), ("comes", ()))
        self.assertEqual(ever(ANEW, Sum((), 5), 0, 6, "some")[0], "never")

    def test_what_the_plan_calls_is_enough(self):
        made = Rounds("people ann ben\nown ann x\nsum ann b = 2 x\ncall ann b\nround\ndraw ann t")
        self.assertEqual(ever(made, X, 0, 5), ("comes", ()))
        self.assertEqual(ever(made, X, 1, 5, "some"), ("comes", ()))
        self.assertEqual(ever(made, X, 0, 6)[0], "never")
        self.assertEqual(ever(made, X, 0, 6, "some"), ("comes", ()))
        self.assertEqual(ever(made, X, 1, 6), ("comes", (("ann",),)))

    def test_what_comes_of_calls_alone(self):
        """The four parts of x are called one by one, in four rounds."""
        text = (
            "people ann\nown ann x\ndraw ann a\ndraw ann b\ndraw ann c\nsum ann d = -a - b - c + x\nburn ann x\nround\ncall ann a\n"
            "next a b\nnext b c\nnext c d"
        )
        self.assertEqual(ever(Rounds(text), X, 0, 10), ("comes", ((),) * 5))
        self.assertEqual(ever(Rounds(text), X, 1, 10), ("comes", (("ann",),)))
        self.assertIs(shows_ever(Rounds(text), X, 0, 10, ("comes", ((),) * 4)), False)

    def test_no_own_numbers_and_no_kept_notes(self):
        made = Rounds("people ann\nround\ndraw ann t\ncall ann t")
        self.assertEqual(ever(made, Sum(), 4, 6), ("comes", ()))
        self.assertEqual(ever(made, Sum(), 4, 6, "some"), ("never", ((),)))
        self.assertIs(shows_ever(made, Sum(), 4, 6, ("never", ((),)), "some"), True)
        self.assertIs(shows_ever(made, Sum(), 4, 6, ("never", ()), "some"), False)

    def test_300_knowledges_and_301(self):
        made = Rounds(ADDING)
        for dial in (299, 300):
            answer, closed = ever(made, X, 0, dial)
            self.assertEqual((answer, len(closed)), ("never", dial))
            self.assertIs(shows_ever(made, X, 0, dial, (answer, closed)), True)
            # Goals that are known at once take no more and no less of them.
            self.assertEqual(ever(made, Sum(), 0, dial), ("comes", ()))
        for goal in (X, Sum(), 301 * X):
            for word in ("told", "some"):
                with self.assertRaises(TooMany) as held:
                    ever(made, goal, 0, 301, word)
                self.assertEqual((held.exception.value, held.exception.value.__class__), (300, int))
        self.assertEqual(ever(made, X, 1, 6), ("comes", (("ann",),)))

    def test_shows_ever_never_raises_too_many(self):
        made = Rounds(ADDING)
        self.assertIs(shows_ever(made, Sum(), 0, 301, ("comes", ())), True)
        self.assertIs(shows_ever(made, X, 0, 301, ("comes", ())), False)
        self.assertIs(shows_ever(made, X, 0, 301, None), False)
        # Behind each round it is known that x as a note is x, and what b is less so many times x; 301 is 7 times 43.
        closed = tuple(sorted(lattice(((1, -1, 0), (0, -many, 1)), 301) for many in range(301)))
        self.assertEqual(len(set(closed)), 301)
        self.assertIs(shows_ever(made, X, 0, 301, ("never", closed)), True)
        self.assertIs(shows_ever(made, X, 0, 301, ("never", closed[1:])), False)
        self.assertIs(shows_ever(made, X, 0, 301, ("never", closed[:150] + closed[151:])), False)
        self.assertIs(shows_ever(made, X, 1, 301, ("never", closed)), False)


def lattice(vectors, dial):
    """The knowledge of all sums of these vectors, by plain steps over integers."""
    width = len(vectors[0])
    left = [list(vector) for vector in vectors]
    left += [[dial * (at == place) for place in range(width)] for at in range(width)]
    rows = []
    for column in range(width):
        while len([vector for vector in left if vector[column]]) > 1:
            least = min((vector for vector in left if vector[column]), key=lambda vector: abs(vector[column]))
            for vector in left:
                if vector is not least:
                    times = vector[column] // least[column]
                    vector[:] = [high - times * low for high, low in zip(vector, least)]
        row = next(vector for vector in left if vector[column])
        left = [vector for vector in left if vector is not row]
        rows.append(row if row[column] > 0 else [-number for number in row])
    for at in range(width):
        for place in range(at + 1, width):
            times = rows[at][place] // rows[place][place]
            rows[at] = [high - times * low for high, low in zip(rows[at], rows[place])]
    return tuple(map(tuple, rows))


class Shown(Refusals):
    def test_any_looks_behind_which_it_is_so(self):
        for looks, expected in (
            ((("ben",), ("cy",)), True), ((("cy",), ("ben",)), True), ((("cy",), ()), True), (((), ("cy",)), True), ((("cy",),), False),
            ((), False), ((("ben",),), False), ((("cy",), (), (), ("ben",)), True), ((("ben",),) * 300, False),
            ((("ben",),) * 299 + (("cy",),), True), ((("ben",),) * 300 + (("cy",),), False), ((("ben", "cy"),), False),
            ((("ben", "cy"), ("cy",)), False), ([("ben",), ("cy",)], False), ((["ben"], ["cy"]), False), ((("ben",), ("dan",)), False),
            ((("ben",), "cy"), False), (None, False), ("", False), ((("ben",), ("cy", "cy")), False),
        ):
            self.assertIs(shows_ever(STILL, X, 1, 6, ("comes", looks)), expected, looks)
        self.assertIs(shows_ever(STILL, X, 2, 6, ("comes", (("ben", "cy"),))), True)

    def test_any_closed_knowledges(self):
        every = all_knowledges(2, 3)
        self.assertEqual({lattice(rows, 2) for rows in every}, set(every))
        made = Rounds(ANEW.text)
        exact = ever(made, X, 1, 2)[1]
        self.assertIs(shows_ever(made, X, 1, 2, ("never", exact)), True)
        search = dealing.Search(made, 2)
        small = [group for group in groups(made.plan.people) if len(group) < 2]
        shown = 0
        for code in range(2 ** 11):
            source = random.Random(code)
            rest = [one for one in every if one not in exact and source.randrange(4) == 0]
            closed = tuple(sorted(rest + [one for one in exact if source.randrange(12)]))
            sets = {dealing.all_sums(rows, 3, 2) for rows in closed}
            ahead = [search.first()] + [search.later(one) for one in sets]
            expected = not any(search.is_known(one, X, "told") for one in sets)
            expected = expected and all(search.look(one, group) in sets for one in ahead for group in small)
            self.assertIs(shows_ever(made, X, 1, 2, ("never", closed)), expected, closed)
            shown += expected
        self.assertGreater(shown, 10)

    def test_wrong_values(self):
        right = ("never", CLOSED)
        self.assertIs(shows_ever(ANEW, X, 1, 6, right), True)
        first, second, third = CLOSED
        whole = ((1, 0, 0), (0, 1, 0), (0, 0, 1))
        for value in ANY + (
            list(right), ("never",), right + (1,), ("Never", CLOSED), ("comes", CLOSED), (None, CLOSED), ("never", list(CLOSED)),
            ("never", None), ("never", ()), ("never", CLOSED[:2]), ("never", CLOSED[1:]), ("never", (first, third)),
            ("never", (second, first, third)), ("never", (first, first, second, third)), ("never", CLOSED + (CLOSED,)),
            ("never", (whole,) + CLOSED), ("never", CLOSED + (None,)), ("never", (list(first), second, third)),
            ("never", (first, second, (list(third[0]),) + third[1:])), ("never", (first, second, third[:2])),
            ("never", (first, second, ((1, 5, 5), (0, 6, 0), (0, 0, 6), (0, 0, 0)))), ("never", (first, second, ((1, 5), (0, 6)))),
            ("never", ((((True, 0, 5)), (0, 1, 0), (0, 0, 6)), second, third)), ("never", (((1, False, 5), (0, 1, 0), (0, 0, 6)), second, third)),
            ("never", (((1, 0, -1), (0, 1, 0), (0, 0, 6)), second, third)), ("never", (((1, 0, 11), (0, 1, 0), (0, 0, 6)), second, third)),
            ("never", (((1, 0, 5), (0, 1, 0), (0, 0, 0)), second, third)), ("never", (((1, 0, 5), (0, 1, 0), (0, 0, 12)), second, third)),
            ("never", (((7, 0, 5), (0, 1, 0), (0, 0, 6)), second, third)), ("never", (((1, 0, 5), (6, 1, 0), (0, 0, 6)), second, third)),
            ("never", (((1, 1, 5), (0, 1, 0), (0, 0, 6)), second, third)), ("never", (((-1, 0, 5), (0, 1, 0), (0, 0, 6)), second, third)),
            ("never", ((("1", 0, 5), (0, 1, 0), (0, 0, 6)), second, third)), ("never", dict.fromkeys(CLOSED)), CLOSED, ANEW, X,
        ):
            self.assertIs(shows_ever(ANEW, X, 1, 6, value), False, value)

    def test_wrong_forms_of_knowledges(self):
        """What makes the same sums as a knowledge that is there, but is none, is refused."""
        first, second, third = CLOSED
        for odd in (
            ((1, 1, 5), (0, 1, 0), (0, 0, 6)), ((1, 0, 5), (1, 1, 5), (0, 0, 6)), ((1, 0, 11), (0, 1, 0), (0, 0, 6)),
            ((1, 0, -1), (0, 1, 0), (0, 0, 6)), ((1, 5, 5), (0, 6, 6), (0, 0, 6)), ((1, 5, 5), (0, 6, 0), (0, 6, 6)),
            ((1, 5, 5), (0, 6, 0), (6, 0, 6)), ((1, 5, 5), (0, 6, 0), (0, 0, 12)), ((-1, 1, 1), (0, 6, 0), (0, 0, 6)),
            ((1, 5, 5), (0, 6, 0), (0, 0, -6)), ((1, 5, 5), (0, -6, 0), (0, 0, 6)), ((1, 5, 5, 0), (0, 6, 0), (0, 0, 6)),
            ((1, 5, 5), (0, 6, 0, 0), (0, 0, 6)), ((1, 5, 5), (0, 6, 0), (0, 0, 6, 0)), ((1, 5, 5), (0, 6), (0, 0, 6)),
            ((1, 5, 5), (0, 6, 0)), ((1, 5, 5), (0, 6, 0), (0, 0, 6), (0, 0, 0)), ((1, 5, 5), [0, 6, 0], (0, 0, 6)), third[0], (),
        ):
            self.assertIs(shows_ever(ANEW, X, 1, 6, ("never", CLOSED + (odd,))), False, odd)
            try:
                closed = tuple(sorted(CLOSED + (odd,)))
            except TypeError:
                continue
            self.assertIs(shows_ever(ANEW, X, 1, 6, ("never", closed)), False, odd)

    def test_what_the_dial_has_in_each_column(self):
        """All that comes of these is there, but they make not all multiples of the dial."""
        search = dealing.Search(ANEW, 6)
        small = [group for group in groups(ANEW.plan.people) if len(group) < 2]
        for odd in (((4, 0, 0), (0, 6, 0), (0, 0, 6)), ((2, 1, 0), (0, 6, 0), (0, 0, 6)), ((3, 0, 1), (0, 6, 0), (0, 0, 6)),
                    ((6, 2, 1), (0, 3, 0), (0, 0, 2))):
            found, ahead = set(), [search.first(), search.later(dealing.all_sums(odd, 3, 6))]
            while ahead:
                fresh = {search.look(one, group) for one in ahead for group in small} - found
                found |= fresh
                ahead = [search.later(one) for one in fresh]
            closed = {lattice(sorted(one), 6) for one in found}
            is_known = any(search.is_known(one, X, "told") for one in found)
            self.assertIs(shows_ever(ANEW, X, 1, 6, ("never", tuple(sorted(closed)))), not is_known)
            whole = lattice(odd, 6)
            self.assertNotEqual(whole, odd)
            expected = not is_known and not search.is_known(dealing.all_sums(odd, 3, 6), X, "told")
            self.assertIs(shows_ever(ANEW, X, 1, 6, ("never", tuple(sorted(closed | {whole})))), expected)
            self.assertIs(shows_ever(ANEW, X, 1, 6, ("never", tuple(sorted(closed | {odd})))), False, odd)
            self.assertIs(shows_ever(ANEW, X, 1, 6, ("never", tuple(sorted(closed | {odd, whole})))), False, odd)

    def test_a_closed_tuple_of_another_goal(self):
        self.assertIs(shows_ever(ANEW, X, 0, 6, ("never", CLOSED)), True)
        self.assertIs(shows_ever(ANEW, X, 2, 6, ("never", CLOSED)), False)
        self.assertIs(shows_ever(ANEW, 6 * X, 1, 6, ("never", CLOSED)), False)
        self.assertIs(shows_ever(ANEW, 6 * X, 1, 6, ("never", CLOSED), "some"), True)
        self.assertIs(shows_ever(ANEW, X, 1, 12, ("never", CLOSED)), False)
        self.assertIs(shows_ever(STILL, X, 1, 6, ("never", CLOSED)), False)

    def test_words(self):
        made = Rounds("people ann ben\nown ann x\nsum ann b = 2 x\nhand ann ben b\nburn ann x\nburn ann b\nround\ndraw ann t")
        self.assertEqual(ever(made, X, 1, 6)[0], "never")
        self.assertEqual(ever(made, X, 1, 6, "some"), ("comes", (("ben",),)))
        self.assertIs(shows_ever(made, X, 1, 6, ("comes", (("ben",),)), "some"), True)
        self.assertIs(shows_ever(made, X, 1, 6, ("comes", (("ben",),)), word="told"), False)
        self.assertIs(shows_ever(made, X, 1, 6, ever(made, X, 1, 6), "some"), False)


def all_knowledges(dial, length):
    """All knowledges, from all tuples of rows of which they could be made."""
    found = []
    numbers = range(dial + 1)
    for integers in product(numbers, repeat=length * (length + 1) // 2):
        left = list(integers)
        rows = tuple(tuple([0] * at + [left.pop(0) for _ in range(length - at)]) for at in range(length))
        if all(row[at] and dial % row[at] == 0 for at, row in enumerate(rows)):
            reduced = all(rows[at][place] < rows[place][place] for at in range(length) for place in range(at + 1, length))
            if reduced and has_dial_in_each_column(rows, dial):
                found.append(rows)
    return found


def has_dial_in_each_column(rows, dial):
    """Whether what has dial in one column, and 0 in all others, is a sum of the rows, by trying what is left to do."""
    for at in range(len(rows)):
        left = [dial * (at == place) for place in range(len(rows))]
        for place, row in enumerate(rows):
            if left[place] % row[place]:
                return False
            times = left[place] // row[place]
            left = [high - times * low for high, low in zip(left, row)]
    return True


class Refused(Refusals):
    def test_goals(self):
        for goal in NO_SUMS + (Sum.of("b"), Sum.of("c"), Sum.of("t"), Sum.of("b + x"), Sum.of("y"), Sum.of("ann"), ANEW, (X,)):
            self.refused(BadSum, goal, looked, ANEW, (), goal, 6)
            self.refused(BadSum, goal, ever, ANEW, goal, 1, 6)
            self.refused(BadSum, goal, shows_ever, ANEW, goal, 1, 6, None)
        for many in (9999, -9999):
            self.assertEqual(looked(ANEW, (), many * X + 10 ** 12, 9999), 9999)

    def test_few(self):
        for few in NO_INTEGERS + (-1, 5, 10 ** 12, "0", (0,), ANEW):
            self.refused(BadFew, few, ever, ANEW, X, few, 6)
            self.refused(BadFew, few, shows_ever, ANEW, X, few, 6, None)
        for few in (2, 3, 4):
            self.assertEqual([ever(ANEW, X, few, 6)[0], len(ever(ANEW, X, few, 6)[1])], ["comes", 1])

    def test_dials(self):
        for dial in NO_DIALS:
            self.refused(BadDial, dial, looked, ANEW, (), X, dial)
            self.refused(BadDial, dial, ever, ANEW, X, 1, dial)
            self.refused(BadDial, dial, shows_ever, ANEW, X, 1, dial, None)
        for dial in (2, 10 ** 6):
            self.assertEqual(ever(ANEW, X, 1, dial)[0], "never")

    def test_words(self):
        for word in ANY + ("Told", "tell", "some ", ["told"], ("some",), {"told": 1}, "toldsome", ANEW, Dials(1, ())):
            self.refused(BadWord, word, ever, ANEW, X, 1, 6, word)
            self.refused(BadWord, word, ever, ANEW, X, 1, 6, word=word)
            self.refused(BadWord, word, shows_ever, ANEW, X, 1, 6, None, word)

    def test_the_first_one_is_refused(self):
        many = Rounds(ADDING)
        for wrong in (None, True, ["x"], "saw?", -1):
            self.refused(BadSum, wrong, ever, many, wrong, wrong, wrong, wrong)
            self.refused(BadFew, wrong, ever, many, X, wrong, wrong, wrong)
            self.refused(BadDial, wrong, ever, many, X, 1, wrong, wrong)
            self.refused(BadWord, wrong, ever, many, X, 0, 301, wrong)
            self.refused(BadSum, wrong, shows_ever, many, wrong, wrong, wrong, wrong, wrong)
            self.refused(BadFew, wrong, shows_ever, many, X, wrong, wrong, wrong, wrong)
            self.refused(BadDial, wrong, shows_ever, many, X, 1, wrong, wrong, wrong)
            self.refused(BadWord, wrong, shows_ever, many, X, 0, 301, wrong, wrong)

    def test_arguments_by_name(self):
        self.assertEqual(ever(word="told", dial=6, few=1, goal=X, rounds=ANEW), ("never", CLOSED))
        self.assertIs(shows_ever(word="told", value=("never", CLOSED), dial=6, few=1, goal=X, rounds=ANEW), True)


class Guarantees(Refusals):
    def test_other_names(self):
        source = random.Random(5)
        for _ in range(60):
            rounds = dealing.some_rounds(source)
            made = {word for line in rounds.text.split("\n") for word in line.split(" ")[1:] if word.isalpha()}
            names = shared.other_names(made | set(rounds.plan.notes))
            other = Rounds(shared.renamed_text(rounds.text, names))
            self.assertEqual(other.kept, tuple(names[note] for note in rounds.kept))
            self.assertEqual(other.calls, tuple(shared.renamed(row, names) for row in rounds.calls))
            goal = own_goal(source, rounds)
            again = shared.renamed(goal, names)
            looks = tuple(source.choice(groups(rounds.plan.people)) for _ in range(3))
            new_looks = tuple(shared.renamed_group(group, names) for group in looks)
            for dial in (4, 6, 360):
                self.assertEqual(looked(other, new_looks, again, dial), looked(rounds, looks, goal, dial))
            for word in ("told", "some"):
                first, second = ever(rounds, goal, 1, 4, word), ever(other, again, 1, 4, word)
                self.assertEqual(first[0], second[0])
                self.assertTrue(first[1] == second[1] if first[0] == "never" else len(first[1]) == len(second[1]))
            lines = rounds.text.split("\n")
            lines.insert(source.randrange(1, len(lines)), source.choice(("burn ann x", "draw ann h", "next x x")))
            self.assertEqual(wrong_line("\n".join(lines)), wrong_line(renamed_anyway("\n".join(lines), names)))

    def test_more_seen(self):
        source = random.Random(3)
        for _ in range(40):
            rounds = dealing.some_rounds(source)
            goal = own_goal(source, rounds)
            for dial in (6, 360):
                looks = tuple(source.choice(groups(rounds.plan.people)) for _ in range(6))
                parts = [looked(rounds, looks[:many], goal, dial) for many in range(7)]
                for before, after in zip(parts, parts[1:]):
                    self.assertEqual(after % before, 0)

    def test_side_by_side(self):
        source = random.Random(4)
        for _ in range(40):
            rounds = dealing.some_rounds(source)
            goal = own_goal(source, rounds)
            looks = tuple(source.choice(groups(rounds.plan.people)) for _ in range(3))
            for low, high in ((4, 9), (8, 125), (2, 3)):
                apart = looked(rounds, looks, goal, low) * looked(rounds, looks, goal, high)
                self.assertEqual(looked(rounds, looks, goal, low * high), apart)


if __name__ == "__main__":
    unittest.main()
