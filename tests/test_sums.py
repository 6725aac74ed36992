"""Section 4: Sums."""

import re
import unittest
from itertools import product

from dialsums.dials import Dials
from dialsums.errors import BadDial, BadName, BadNumber, BadParts, BadSum, BadText, BadValues
from dialsums.sums import Sum
from tests.samples import ANY, NO_INTEGERS, NO_NAMES, Refusals, deep

X = Sum((("x", 1),))
Y = Sum((("y", 1),))
BOTH = Sum((("r", -1), ("x", 2)), 5)
MANY = 123456789012

RIGHT_PARTS = (
    (), (("a", 1),), (("abcdefgh", -1),), (("a", 1), ("ab", 1), ("b", 1)), (("x", MANY), ("y", -MANY), ("z", 10 ** 30)),
)

WRONG_PARTS = (
    [], [("x", 1)], (["x", 1],), (("x", 1), ["y", 1]), {}, {"x": 1}, "x", "", 0, 1, True, False, None, X, Dials(1, ()),
    (("x", 0),), (("x", True),), (("x", False),), (("x", None),), (("x", "1"),), (("x", (1,)),), (("x", X),),
    (("", 1),), (("abcdefghi", 1),), (("X", 1),), (("xY", 1),), (("x1", 1),), (("x ", 1),), (("x\n", 1),),
    ((1, 1),), ((True, 1),), ((None, 1),), ((("x",), 1),), ((["x"], 1),), ((1, "x"),), ((X, 1),),
    ("x", 1), (("x",),), (("x", 1, 1),), ((),), ((("x", 1),),), ("x1",), (1,), (None,),
    (("x", 1), ("x", 1)), (("x", 1), ("x", 2)), (("x", 2), ("x", 1)), (("y", 1), ("x", 1)),
    (("a", 1), ("c", 1), ("b", 1)), (("a", 1), ("b", 0)), (("a", 1), ("b", 1), ("a", 1)), (("ab", 1), ("a", 1)),
    deep(30), (deep(28),),
)

TEXTS = {
    "0": ((), 0), "5": ((), 5), "-5": ((), -5), "1": ((), 1), "-1": ((), -1), "123456789012": ((), MANY),
    "x": ((("x", 1),), 0), "-x": ((("x", -1),), 0), "2 x": ((("x", 2),), 0), "-2 x": ((("x", -2),), 0),
    "x + 1": ((("x", 1),), 1), "x - 1": ((("x", 1),), -1), "-x + 3": ((("x", -1),), 3), "-10 x - 3": ((("x", -10),), -3),
    "2 x - y + 5": ((("x", 2), ("y", -1)), 5), "-r + x": ((("r", -1), ("x", 1)), 0),
    "-a - 2 ab + b - 30": ((("a", -1), ("ab", -2), ("b", 1)), -30), "abcdefgh": ((("abcdefgh", 1),), 0),
    "-123456789012 x + 123456789012": ((("x", -MANY),), MANY),
}

WRONG_TEXTS = (
    "y + x", "y - x", "b + a + c", "ab + a", "x + x", "x - x", "x + 2 x", "1 x", "-1 x", "y + 1 z", "0 x", "-0 x",
    "x + 0 y", "+ x", "+x", "- x", "--x", "- 5", "+5", "+ 5", "--5", "x + 0", "x - 0", "-0", "00", "05", "-05", "02 x",
    "x + 05", "x + 02 y", "x  + y", "x +  y", "2  x", " x", "x ", " 0", "0 ", "x\n", "\nx", "x\n+ y", "x +\ny", "\n", "",
    " ", "-", "+", "x +", "x + ", "x -", "x + + y", "x + -y", "x - -5", "x + - y", "x y", "2 x y", "2 3 x", "x 2", "2x",
    "x+y", "x +y", "x+ y", "5 + x", "5 x 5", "5 + 6", "x + 5 + 6", "x + 5 + y", "X", "2 X", "xY", "abcdefghi",
    "3 abcdefghi", "x1", "x_y", "1_000", "1,000", "1.5", "0x10", "1e3", "x * 2", "2 * x", "(x)", "x;y", "None", "x + +5",
)


def grammar(text):
    """Whether this is the text of a Sum, by an expression over the whole of it."""
    number, name = "[1-9][0-9]*", "[a-z]{1,8}"
    term = f"(?:(?:[2-9]|[1-9][0-9]+) )?{name}"
    whole = f"0|-?{number}|-?{term}(?: [+-] {term})*(?: [+-] {number})?"
    if re.fullmatch(whole, text) is None:
        return False
    names = re.findall("[a-z]+", text)
    return names == sorted(set(names))


def counts(value):
    """A Sum, or an integer, as a dict, the number beside at the key 1."""
    if isinstance(value, Sum):
        return {**dict(value.parts), 1: value.number}
    return {1: value}


def combined(one, other, times):
    """(parts, number) of one and so many times the other."""
    left, right = counts(one), counts(other)
    total = {name: left.get(name, 0) + times * right.get(name, 0) for name in {**left, **right}}
    number = total.pop(1)
    return tuple(sorted((name, many) for name, many in total.items() if many)), number


def small_sums():
    """Sums of up to three names, with small integers of both signs."""
    found = []
    for numbers in product((-2, -1, 0, 1, 3), repeat=3):
        for number in (-12, -1, 0, 1, 7):
            parts = tuple((name, many) for name, many in zip(("ab", "r", "x"), numbers) if many)
            found.append(Sum(parts, number))
    return found


class Making(Refusals):
    def test_parts_and_number_are_kept(self):
        for parts in RIGHT_PARTS:
            for number in (0, 1, -1, MANY, -MANY):
                made = Sum(parts, number)
                self.assertEqual((made.parts, made.number), (parts, number))
                self.assertEqual(made.names, tuple(name for name, many in parts))

    def test_defaults(self):
        self.assertEqual((Sum().parts, Sum().number, Sum().names), ((), 0, ()))
        self.assertEqual(Sum((("x", 2),)).number, 0)
        self.assertEqual(Sum(number=3).parts, ())

    def test_wrong_parts(self):
        for parts in WRONG_PARTS:
            self.refused(BadParts, parts, Sum, parts)
            self.refused(BadParts, parts, Sum, parts, 1)

    def test_names_of_parts(self):
        for name in NO_NAMES:
            parts = ((name, 1),)
            self.refused(BadParts, parts, Sum, parts)

    def test_integers_of_parts(self):
        for many in NO_INTEGERS:
            parts = (("a", 1), ("x", many))
            self.refused(BadParts, parts, Sum, parts)

    def test_wrong_numbers(self):
        for number in NO_INTEGERS:
            self.refused(BadNumber, number, Sum, (), number)
            self.refused(BadNumber, number, Sum, (("x", 1),), number)

    def test_parts_are_refused_ahead_of_the_number(self):
        for parts in WRONG_PARTS:
            for number in NO_INTEGERS:
                self.refused(BadParts, parts, Sum, parts, number)
                self.refused(BadParts, parts, Sum, number=number, parts=parts)

    def test_properties_are_tuples_integers_and_strings(self):
        self.assertIs(BOTH.parts.__class__, tuple)
        self.assertIs(BOTH.names.__class__, tuple)
        self.assertIs(BOTH.number.__class__, int)
        self.assertIs(BOTH.text.__class__, str)


class Texts(Refusals):
    def test_texts_of_sums(self):
        for text, (parts, number) in TEXTS.items():
            self.assertEqual(Sum(parts, number).text, text)

    def test_sums_of_texts(self):
        for text, (parts, number) in TEXTS.items():
            made = Sum.of(text)
            self.assertEqual((made.parts, made.number), (parts, number))

    def test_there_and_back(self):
        texts = {}
        for total in small_sums():
            self.assertTrue(grammar(total.text), total.text)
            self.assertEqual(Sum.of(total.text), total)
            texts[total.text] = True
        self.assertEqual(len(texts), len(small_sums()))

    def test_wrong_texts(self):
        for text in WRONG_TEXTS:
            self.assertFalse(grammar(text), text)
            self.refused(BadText, text, Sum.of, text)

    def test_no_strings(self):
        for text in ANY:
            if not isinstance(text, str):
                self.refused(BadText, text, Sum.of, text)

    def test_all_short_texts(self):
        for length in range(5):
            for signs in product("-+ 012xy", repeat=length):
                self.agrees("".join(signs))

    def test_all_texts_of_few_words(self):
        for length in range(6):
            for words in product(("x", "y", "0", "1", "12", "+", "-", "-x", "-2"), repeat=length):
                self.agrees(" ".join(words))

    def agrees(self, text):
        """Sum.of takes the text just if it is one by the grammar, and its Sum has this text."""
        if grammar(text):
            self.assertEqual(Sum.of(text).text, text)
        else:
            self.refused(BadText, text, Sum.of, text)

    def test_of_is_static(self):
        self.assertEqual(BOTH.of("x"), X)
        self.assertIsInstance(Sum.__dict__["of"], staticmethod)


class Reading(Refusals):
    def test_items(self):
        self.assertEqual([BOTH["r"], BOTH["x"], BOTH["y"], Sum()["x"]], [-1, 2, 0, 0])

    def test_items_of_no_names(self):
        for name in NO_NAMES:
            self.refused(BadName, name, BOTH.__getitem__, name)
        with self.assertRaises(BadName):
            BOTH[0]

    def test_length(self):
        self.assertEqual([len(Sum()), len(Sum((), 5)), len(X), len(BOTH), len(X - X)], [0, 0, 1, 2, 0])

    def test_in(self):
        self.assertIs("x" in BOTH, True)
        self.assertIs("r" in BOTH, True)
        for value in ANY + NO_NAMES + ("rx", "abcdefgh"):
            self.assertIs(value in BOTH, value.__class__ is str and value in ("r", "x"), value)

    def test_values(self):
        self.assertEqual(BOTH({"r": 1, "x": 4}), 12)
        self.assertEqual(BOTH({"r": -7, "x": 0, "y": 100, "abcdefgh": 3}), 12)
        self.assertEqual(Sum((), 4)({}), 4)
        self.assertEqual(Sum()({"x": 1}), 0)
        self.assertEqual(X({"x": MANY}), MANY)

    def test_wrong_values(self):
        wrong = (
            {}, {"r": 1}, {"x": 1}, {"r": 1, "y": 1}, {"r": 1, "x": True}, {"r": 1, "x": False}, {"r": 1, "x": None},
            {"r": 1, "x": "1"}, {"r": 1, "x": [1]}, {"r": 1, "x": 1, "y": True}, {"r": 1, "x": 1, "y": X},
            {"r": 1, "x": 1, "X": 1}, {"r": 1, "x": 1, "": 1}, {"r": 1, "x": 1, "abcdefghi": 1}, {"r": 1, "x": 1, 1: 1},
            {"r": 1, "x": 1, None: 1}, {"r": 1, "x": 1, ("x",): 1}, {"r": 1, "x": 1, True: 1}, (("r", 1), ("x", 1)),
            [("r", 1), ("x", 1)], ["r", "x"], ("r", "x"), "rx", 0, 1, True, None, BOTH, Dials(1, ()),
        )
        for values in wrong:
            self.refused(BadValues, values, BOTH, values)
            self.refused(BadValues, values, BOTH, values=values)

    def test_wrong_values_of_a_sum_without_names(self):
        for values in ({"x": True}, {"X": 1}, {1: 1}, [], (), None, 0, "", True):
            self.refused(BadValues, values, Sum((), 3), values)


class Reckoning(Refusals):
    def same(self, made, told):
        self.assertIs(made.__class__, Sum)
        self.assertEqual((made.parts, made.number), told)

    def test_sums_of_sums(self):
        for one, other in product(small_sums()[::7], repeat=2):
            self.same(one + other, combined(one, other, 1))
            self.same(one - other, combined(one, other, -1))

    def test_integers_on_either_side(self):
        for one, number in product(small_sums()[::7], (-3, -1, 0, 1, 12, MANY)):
            self.same(one + number, combined(one, number, 1))
            self.same(number + one, combined(one, number, 1))
            self.same(one - number, combined(one, number, -1))
            self.same(number - one, combined(number, one, -1))
            self.same(one * number, combined(0, one, number))
            self.same(number * one, combined(0, one, number))
            self.same(-one, combined(0, one, -1))

    def test_names_that_come_to_nothing_do_not_stand(self):
        self.same(X - X, ((), 0))
        self.same(BOTH + Sum.of("r"), ((("x", 2),), 5))
        self.same(0 * BOTH, ((), 0))
        self.same(BOTH * 0, ((), 0))

    def test_names_of_both_ascend(self):
        self.same(Y + X, ((("x", 1), ("y", 1)), 0))
        self.same(Sum.of("ab + c") + Sum.of("a + b"), ((("a", 1), ("ab", 1), ("b", 1), ("c", 1)), 0))

    def test_operators_change_nothing(self):
        one, other = Sum.of("x + 1"), Sum.of("y")
        held = one
        held += other
        held -= 1
        held *= 2
        held %= 9
        self.assertEqual([one.text, other.text, held.text], ["x + 1", "y", "2 x + 2 y"])

    def test_the_sum_of_a_list(self):
        self.assertEqual(sum([X, Y, X]).text, "2 x + y")

    def test_other_operands(self):
        for value in NO_INTEGERS:
            self.no_operand(lambda: BOTH * value)
            self.no_operand(lambda: value * BOTH)
            if not isinstance(value, Sum):
                self.no_operand(lambda: BOTH + value)
                self.no_operand(lambda: value + BOTH)
                self.no_operand(lambda: BOTH - value)
                self.no_operand(lambda: value - BOTH)

    def no_operand(self, call):
        with self.assertRaises(TypeError):
            call()

    def test_true_is_no_operand(self):
        for value in (True, False):
            for call in (
                lambda: X + value, lambda: value + X, lambda: X - value, lambda: value - X, lambda: X * value,
                lambda: value * X,
            ):
                self.no_operand(call)

    def test_operators_that_are_not_there(self):
        for call in (
            lambda: X < Y, lambda: X <= Y, lambda: X > 1, lambda: 1 >= X, lambda: X * Y, lambda: X | Y, lambda: X & 1,
            lambda: ~X, lambda: X // 2, lambda: X / 2, lambda: X ** 2, lambda: 5 % X, lambda: X @ Y, lambda: X << 1,
        ):
            self.no_operand(call)


class Rests(Refusals):
    def test_rests(self):
        cases = (
            ("-r + 2 x + 5", 2, "r + 1"), ("-r + 2 x + 5", 3, "2 r + 2 x + 2"), ("-r + 2 x + 5", 7, "6 r + 2 x + 5"),
            ("4 x", 4, "0"), ("4 x - 4", 3, "x + 2"), ("-6", 6, "0"), ("-1", 1000000, "999999"), ("0", 2, "0"),
            ("1000001 x", 1000000, "x"), ("-x", 1000000, "999999 x"), ("6 a + 3 b - 9 c", 6, "3 b + 3 c"),
        )
        for text, dial, rest in cases:
            self.assertEqual((Sum.of(text) % dial).text, rest)

    def test_all_rests(self):
        for one, dial in product(small_sums()[::5], (2, 3, 4, 5, 12, 10 ** 6)):
            rest = one % dial
            self.assertEqual(rest.number, one.number % dial)
            for name in ("ab", "r", "x"):
                self.assertEqual(rest[name], one[name] % dial)
            self.assertEqual(rest.names, tuple(name for name in one.names if one[name] % dial))

    def test_no_dials(self):
        for dial in NO_INTEGERS + (1, 0, -1, -2, 10 ** 6 + 1, 10 ** 12):
            self.refused(BadDial, dial, X.__mod__, dial)
            with self.assertRaises(BadDial):
                X % dial


class Putting(Refusals):
    def test_put(self):
        cases = (
            ("-r + 2 x + 5", "x", "r + 1", "r + 7"), ("-r + 2 x + 5", "x", "0", "-r + 5"),
            ("-r + 2 x + 5", "r", "x", "x + 5"), ("-r + 2 x + 5", "y", "7 z + 3", "-r + 2 x + 5"),
            ("-r + 2 x + 5", "x", "x", "-r + 2 x + 5"), ("-r + 2 x + 5", "x", "3 x - 1", "-r + 6 x + 3"),
            ("-r + 2 x + 5", "r", "2 x + 5", "0"), ("4", "x", "y", "4"), ("0", "x", "x", "0"),
            ("x", "x", "a - y - 2", "a - y - 2"), ("-3 x", "x", "a - y - 2", "-3 a + 3 y + 6"),
            ("a + b", "a", "b + c", "2 b + c"), ("a + b", "a", "a + b", "a + 2 b"),
        )
        for text, name, other, made in cases:
            self.assertEqual(Sum.of(text).put(name, Sum.of(other)).text, made)

    def test_put_by_values(self):
        values = {"ab": 3, "r": 10, "x": -4, "y": 7}
        for one, other in product(small_sums()[::7], small_sums()[::11]):
            for name in ("ab", "x", "y"):
                put = one.put(name, other)
                self.assertEqual(put(values), one({**values, name: other(values)}))

    def test_wrong_names(self):
        for name in NO_NAMES:
            self.refused(BadName, name, BOTH.put, name, X)

    def test_wrong_sums(self):
        for other in ANY + ("x", 0):
            if not isinstance(other, Sum):
                self.refused(BadSum, other, BOTH.put, "x", other)
                self.refused(BadSum, other, BOTH.put, "y", other)

    def test_names_are_refused_ahead_of_sums(self):
        for name in NO_NAMES:
            self.refused(BadName, name, BOTH.put, name, "x")
            self.refused(BadName, name, BOTH.put, other=None, name=name)

    def test_put_changes_nothing(self):
        BOTH.put("x", Y)
        self.assertEqual(BOTH.text, "-r + 2 x + 5")


class Equality(unittest.TestCase):
    def test_equal(self):
        for one, other in product(small_sums()[::9], repeat=2):
            same = (one.parts, one.number) == (other.parts, other.number)
            self.assertIs(one == other, same)
            self.assertIs(one != other, not same)
        self.assertTrue(Sum.of("x + 1") == X + 1)

    def test_number_and_parts_count(self):
        self.assertFalse(X == X + 1)
        self.assertFalse(X == 2 * X)
        self.assertFalse(X == Y)

    def test_equal_to_nothing_else(self):
        for one in (Sum(), Sum((), 1), X, BOTH):
            for value in ANY + ("0", "x", one.text, one.parts, (one.parts, one.number), [one], (one,)):
                if not isinstance(value, Sum):
                    self.assertIs(one == value, False)
                    self.assertIs(value == one, False)
                    self.assertIs(one != value, True)


class ByName(unittest.TestCase):
    def test_arguments_by_name(self):
        self.assertEqual(Sum(parts=(("x", 2),), number=3).text, "2 x + 3")
        self.assertEqual(Sum(number=3, parts=(("x", 2),)).text, "2 x + 3")
        self.assertEqual(Sum.of(text="2 x + 3").parts, (("x", 2),))
        self.assertEqual(X.put(name="x", other=Y), Y)
        self.assertEqual(X.put(other=Y, name="x"), Y)
        self.assertEqual(X(values={"x": 4}), 4)


if __name__ == "__main__":
    unittest.main()
