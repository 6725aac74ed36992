"""Section 5: sets of dials."""

import unittest
from itertools import product
from math import gcd, lcm

from dialsums.dials import Dials
from dialsums.errors import BadDial, BadNumber, BadOthers, BadShares, BadText, BadWhole, TooGreat
from dialsums.sums import Sum
from tests.samples import ANY, NO_INTEGERS, Refusals, deep
from tests.slow import choices, divisors, least, listed, reach

GREATEST = 10 ** 9
PRIME = 999999937
MANY_DIVISORS = 735134400
NONE, EVERY = Dials(1, ()), Dials(1, (1,))
EVEN, ODD = Dials(2, (2,)), Dials(2, (1,))

NO_INTEGER_TUPLES = (
    [], [1], {}, {1: 1}, None, True, 0, 1, 2, "", "1", "1 2", "-", (True,), (None,), ("2",), ((2,),), ([2],), (2, True),
    (2, "6"), (2, None), ([],), ({},), (Sum((), 2),), Sum(), EVEN, (EVEN,), deep(30), (deep(29),),
)


def told(dials):
    """What a set of dials tells of itself."""
    return dials.whole, dials.shares, dials.others


def small_sets():
    """(whole, shares, others) of all shares of small wholes, with some others."""
    others = ((), (2,), (3, 4), (2, 5, 6), (7, 8, 12))
    found = []
    for whole in (1, 2, 3, 4, 5, 6):
        for shares in choices(divisors(whole)):
            found.append((whole, shares, others[len(found) % len(others)]))
    return found


class Making(Refusals):
    def test_least_whole_by_listing(self):
        for whole in list(range(1, 21)) + [30]:
            for code, shares in enumerate(choices(divisors(whole))):
                others = ((), (2, 9), (6,), (3, 4, 10))[code % 4]
                marks = listed(whole, shares, others, 10 + reach(whole))
                self.assertEqual(told(Dials(whole, shares, others)), least(marks, 10, whole), (whole, shares, others))

    def test_what_is_told_makes_an_equal_set(self):
        for whole in (24, 36):
            for shares in list(choices(divisors(whole)))[::5]:
                made = Dials(whole, shares, (5, 24))
                self.assertEqual(told(Dials(*told(made))), told(made))

    def test_some_least_wholes(self):
        self.assertEqual(told(Dials(4, (2, 4))), (2, (2,), ()))
        self.assertEqual(told(Dials(4, (4,))), (4, (4,), ()))
        self.assertEqual(told(Dials(4, (2,))), (4, (2,), ()))
        self.assertEqual(told(Dials(4, (1, 4))), (4, (1, 4), ()))
        self.assertEqual(told(Dials(12, (3, 6, 12), (6, 7))), (3, (3,), (6, 7)))
        self.assertEqual(told(Dials(30, (1, 2, 3, 5, 6, 10, 15, 30))), (1, (1,), ()))
        self.assertEqual(told(Dials(30, ())), (1, (), ()))

    def test_great_wholes(self):
        self.assertEqual(told(Dials(GREATEST, (GREATEST,), (2, GREATEST))), (GREATEST, (GREATEST,), (2, GREATEST)))
        self.assertEqual(told(Dials(GREATEST, (1,))), (10, (1,), ()))
        self.assertEqual(told(Dials(PRIME, (1, PRIME))), (1, (1,), ()))
        self.assertEqual(told(Dials(PRIME, (PRIME,))), (PRIME, (PRIME,), ()))
        self.assertEqual(told(Dials(2 ** 29, (2 ** 28, 2 ** 29))), (2 ** 28, (2 ** 28,), ()))
        self.assertEqual(told(Dials(2 ** 29, (2 ** 28,))), (2 ** 29, (2 ** 28,), ()))
        self.assertEqual(told(Dials(3 ** 18, (1, 3 ** 18))), (3 ** 18, (1, 3 ** 18), ()))
        self.assertEqual(told(Dials(31607 ** 2, (31607,))), (31607 ** 2, (31607,), ()))
        self.assertEqual(told(Dials(31607 ** 2, (31607, 31607 ** 2))), (31607, (31607,), ()))
        self.assertEqual(told(Dials(31607 * 31627, (31607,))), (31607 * 31627, (31607,), ()))
        shares = tuple(share for share in divisors_of_many() if share % 3 == 0)
        self.assertEqual(told(Dials(MANY_DIVISORS, shares)), (3, (3,), ()))

    def test_wrong_wholes(self):
        for whole in NO_INTEGERS + (0, -1, -2, GREATEST + 1, 10 ** 12):
            self.refused(BadWhole, whole, Dials, whole, ())
            self.refused(BadWhole, whole, Dials, whole, (1,), (2,))

    def test_wholes_at_their_bounds(self):
        self.assertEqual(Dials(1, ()).whole, 1)
        self.assertEqual(Dials(GREATEST, (GREATEST,)).whole, GREATEST)

    def test_wrong_shares(self):
        wrong = NO_INTEGER_TUPLES + (
            (0,), (-1,), (4,), (5,), (24,), (1, 1), (2, 1), (6, 6), (1, 3, 2), (1, 2, 5), (-12,), (-1, 1), (0, 1),
        )
        for shares in wrong:
            self.refused(BadShares, shares, Dials, 6, shares)
            self.refused(BadShares, shares, Dials, 6, shares, (2,))

    def test_wrong_others(self):
        wrong = NO_INTEGER_TUPLES + (
            (1,), (0,), (-2,), (GREATEST + 1,), (2, GREATEST + 1), (1, 2), (2, 2), (3, 2), (2, 4, 3), (10 ** 12,),
        )
        for others in wrong:
            self.refused(BadOthers, others, Dials, 6, (1, 2), others)

    def test_others_at_their_bounds(self):
        self.assertEqual(Dials(6, (), (2, GREATEST)).others, (2, GREATEST))

    def test_what_is_refused_first(self):
        for bad in (None, True, 0, [1]):
            self.refused(BadWhole, bad, Dials, bad, bad, bad)
            self.refused(BadWhole, bad, Dials, others=bad, shares=bad, whole=bad)
            self.refused(BadShares, bad, Dials, 6, bad, bad)
            self.refused(BadOthers, bad, Dials, 6, (1,), bad)

    def test_kinds(self):
        made = Dials(4, (2, 4), (3,))
        self.assertEqual([value.__class__ for value in told(made)], [int, tuple, tuple])
        self.assertIs(made.text.__class__, str)


def divisors_of_many():
    """The divisors of MANY_DIVISORS, by its factors."""
    found = [1]
    for prime in (2, 2, 2, 2, 2, 2, 3, 3, 3, 5, 5, 7, 11, 13, 17):
        found = sorted(set(found + [share * prime for share in found]))
    return found


class Texts(Refusals):
    RIGHT = {
        "2 : 2 : -": (4, (2, 4), ()), "1 : - : -": (1, (), ()), "1 : 1 : -": (6, (1, 2, 3, 6), ()),
        "6 : 6 : 6 12": (6, (6,), (6, 12)), "1 : - : 2 3 6": (5, (), (2, 3, 6)), "4 : 1 4 : 9": (4, (1, 4), (9,)),
        "1000000000 : 1000000000 : 1000000000": (GREATEST, (GREATEST,), (GREATEST,)),
    }
    WRONG = (
        "4 : 2 4 : -", "2 : - : -", "2 : 1 2 : -", "6 : 2 6 : -", "12 : 6 12 : 6 12", "4 : 1 : -", "2 : - : 5",
        "2 : 2", "2", "", "-", " ", ":", " : : ", " :  : ", "- : - : -", "2 : 2 : - : -", "2 : 2 :", "2 : 2 : ", "2 :  : -",
        "2 : : -", "2 : 2 : -2", "2 : 2 : -\n", "\n2 : 2 : -", "2\n : 2 : -", " 2 : 2 : -", "2 : 2 : - ", "2 :  2 : -",
        "2 : 2  : -", "2  : 2 : -", "2: 2 : -", "2 :2 : -", "2 : 2 :-", "2:2:-", "02 : 2 : -", "2 : 02 : -",
        "2 : 2 : 04", "+2 : 2 : -", "-2 : 2 : -", "2 : -2 : -", "2 : +2 : -", "2 : 2 : +4", "2 : 3 : -", "2 : 0 : -",
        "0 : - : -", "2 : 2 : 1", "2 : 2 : 0", "2 : 2 : 4 4", "2 : 2 : 6 4", "2 : 2 : 4  6", "2 : 2 : 4,6", "2 : 2 : 4 -",
        "2 : 2 : - 4", "6 : 6 3 : -", "6 : 6 6 : -", "6 : 3  6 : -", "1000000001 : 1000000001 : -",
        "1 : - : 1000000001", "1 : - : 2.0", "two : 2 : -", "2 : x : -", "2 : 2 : x", "2 : 2 : --", "2 : 2 : ()",
        "2 : (2,) : ()", "2 ; 2 ; -", "1_0 : 10 : -", "4 : 4: -", "1 : - : - 2",
    )

    def test_texts_of_sets(self):
        for text, (whole, shares, others) in self.RIGHT.items():
            self.assertEqual(Dials(whole, shares, others).text, text)

    def test_sets_of_texts(self):
        for text, (whole, shares, others) in self.RIGHT.items():
            self.assertEqual(Dials.of(text), Dials(whole, shares, others))
            self.assertEqual(Dials.of(text).text, text)

    def test_there_and_back(self):
        for whole, shares, others in small_sets():
            made = Dials(whole, shares, others)
            self.assertEqual(told(Dials.of(made.text)), told(made))

    def test_wrong_texts(self):
        for text in self.WRONG:
            self.refused(BadText, text, Dials.of, text)

    def test_texts_by_other_wholes(self):
        for whole, shares, others in small_sets():
            lists = [" ".join(map(str, list_)) or "-" for list_ in (shares, others)]
            text = f"{whole} : {lists[0]} : {lists[1]}"
            if Dials(whole, shares, others).whole == whole:
                self.assertEqual(Dials.of(text).text, text)
            else:
                self.refused(BadText, text, Dials.of, text)

    def test_no_strings(self):
        for text in ANY:
            if not isinstance(text, str):
                self.refused(BadText, text, Dials.of, text)

    def test_of_is_static(self):
        self.assertEqual(EVEN.of("2 : 1 : -"), ODD)
        self.assertIsInstance(Dials.__dict__["of"], staticmethod)


class Members(unittest.TestCase):
    def test_members_by_listing(self):
        for whole, shares, others in small_sets():
            made = Dials(whole, shares, others)
            marks = listed(whole, shares, others, 100)
            self.assertEqual([dial in made for dial in range(101)], marks)

    def test_one_and_less_are_no_dials(self):
        for number in (1, 0, -1, -2, -6, -10 ** 12):
            for made in (EVERY, EVEN, ODD, ~NONE, Dials(6, (1, 2, 6))):
                self.assertIs(number in made, False)

    def test_a_dial_by_its_share_and_among_the_others_is_not_in_the_set(self):
        made = Dials(2, (2,), (3, 4))
        self.assertEqual([dial in made for dial in (2, 3, 4, 5, 6)], [True, True, False, False, True])

    def test_great_members(self):
        self.assertIs(10 ** 40 in EVEN, True)
        self.assertIs(10 ** 40 + 1 in EVEN, False)
        self.assertIs(10 ** 40 + 1 in ODD, True)
        self.assertIs(PRIME * 10 ** 30 in Dials(PRIME, (PRIME,)), True)
        self.assertIs(PRIME * 10 ** 30 + 1 in Dials(PRIME, (PRIME,)), False)
        self.assertIs(10 ** 40 in Dials(1, (), (6, 9)), False)
        self.assertIs(10 ** 40 in EVERY, True)

    def test_values_that_are_no_integers(self):
        for value in NO_INTEGERS + ("2", (2,), [2], {2: 2}, Sum((), 2)):
            for made in (EVERY, ODD, EVEN, Dials(1, (), (2,))):
                self.assertIs(value in made, False)

    def test_empty_and_endless(self):
        for whole, shares, others in small_sets():
            made = Dials(whole, shares, others)
            marks = listed(whole, shares, others, 12 + whole)
            self.assertIs(made.is_empty, True not in marks)
            self.assertIs(made.is_endless, True in marks[13:])

    def test_some_empty_and_endless(self):
        self.assertEqual((NONE.is_empty, NONE.is_endless), (True, False))
        self.assertEqual((EVERY.is_empty, EVERY.is_endless), (False, True))
        self.assertEqual((Dials(6, ()).is_empty, Dials(6, ()).is_endless), (True, False))
        self.assertEqual((Dials(6, (), (6, 9)).is_empty, Dials(6, (), (6, 9)).is_endless), (False, False))
        self.assertEqual((Dials(6, (6,), (6,)).is_empty, Dials(6, (6,), (6,)).is_endless), (False, True))


class Stepping(Refusals):
    def test_after_by_listing(self):
        for whole, shares, others in small_sets():
            made = Dials(whole, shares, others)
            marks = listed(whole, shares, others, 100)
            for dial in range(1, 40):
                slow = [more for more in range(dial + 1, 101) if marks[more]]
                self.assertEqual(made.after(dial), slow[0] if slow else None, (whole, shares, others, dial))

    def test_after_where_it_begins(self):
        self.assertEqual([EVERY.after(1), EVEN.after(1), ODD.after(1), NONE.after(1)], [2, 2, 3, None])
        self.assertEqual(Dials(2, (2,), (2, 3, 4)).after(1), 3)
        self.assertEqual(Dials(2, (2,), (2, 4, 6)).after(1), 8)

    def test_after_a_set_that_ends(self):
        ends = Dials(1, (), (6, 9))
        self.assertEqual([ends.after(dial) for dial in (1, 5, 6, 8, 9, 10, GREATEST)], [6, 6, 9, 9, None, None, None])
        last = Dials(1, (), (GREATEST,))
        self.assertEqual([last.after(1), last.after(GREATEST - 1), last.after(GREATEST)], [GREATEST, GREATEST, None])

    def test_after_great_dials(self):
        self.assertEqual(EVERY.after(GREATEST), GREATEST + 1)
        self.assertEqual(EVEN.after(GREATEST), GREATEST + 2)
        self.assertEqual(ODD.after(GREATEST), GREATEST + 1)
        self.assertEqual(Dials(PRIME, (PRIME,)).after(GREATEST), 2 * PRIME)
        self.assertEqual(Dials(GREATEST, (GREATEST,)).after(1), GREATEST)
        self.assertEqual(Dials(GREATEST, (GREATEST,), (GREATEST,)).after(1), 2 * GREATEST)
        self.assertEqual(Dials(2 ** 29, (2 ** 28,)).after(GREATEST), 5 * 2 ** 28)

    def test_after_by_a_whole_with_many_divisors(self):
        shares = tuple(divisors_of_many()[::3])
        made = Dials(MANY_DIVISORS, shares)
        for dial in (1, 1000, MANY_DIVISORS - 1, MANY_DIVISORS, GREATEST):
            slow = dial + 1
            while gcd(slow, MANY_DIVISORS) not in shares:
                slow += 1
            self.assertEqual(made.after(dial), slow)

    def test_after_no_dial(self):
        for dial in NO_INTEGERS + (0, -1, GREATEST + 1, 10 ** 12):
            self.refused(BadDial, dial, EVEN.after, dial)
            self.refused(BadDial, dial, NONE.after, dial)


class Counting(Refusals):
    def test_many_by_listing(self):
        for whole, shares, others in small_sets() + [(36, (1, 4, 6, 36), (4, 5)), (30, (2, 3, 15), ()), (30, (1, 30), (2,))]:
            made = Dials(whole, shares, others)
            marks = listed(whole, shares, others, 100)
            for upto in range(1, 101):
                self.assertEqual(made.many(upto), sum(marks[:upto + 1]), (whole, shares, others, upto))

    def test_many_at_the_bounds(self):
        self.assertEqual([made.many(1) for made in (EVERY, ODD, EVEN, NONE, Dials(1, (1,), (2,)))], [0, 0, 0, 0, 0])
        self.assertEqual(EVERY.many(GREATEST), GREATEST - 1)
        self.assertEqual(EVEN.many(GREATEST), GREATEST // 2)
        self.assertEqual(ODD.many(GREATEST), GREATEST // 2 - 1)
        self.assertEqual(NONE.many(GREATEST), 0)
        self.assertEqual(Dials(1, (), (2, GREATEST)).many(GREATEST), 2)
        self.assertEqual(Dials(1, (), (2, GREATEST)).many(GREATEST - 1), 1)
        self.assertEqual(Dials(1, (1,), (2, GREATEST)).many(GREATEST), GREATEST - 3)
        self.assertEqual(Dials(PRIME, (PRIME,)).many(GREATEST), 1)
        self.assertEqual(Dials(PRIME, (1,)).many(GREATEST), GREATEST - 2)
        self.assertEqual(Dials(2 ** 29, (2 ** 28,)).many(GREATEST), 2)

    def test_many_by_a_whole_with_many_divisors(self):
        shares = divisors_of_many()
        single = {share: Dials(MANY_DIVISORS, (share,)).many(GREATEST) for share in shares}
        self.assertEqual(sum(single.values()), GREATEST - 1)
        for share in shares[1::40] + [MANY_DIVISORS]:
            self.assertEqual(sum(single[more] for more in shares if more % share == 0), GREATEST // share)
        some = Dials(MANY_DIVISORS, tuple(shares[::3]))
        self.assertEqual(some.many(GREATEST), sum(single[share] for share in shares[::3]))
        self.assertEqual((~some).many(GREATEST), GREATEST - 1 - some.many(GREATEST))

    def test_many_between_two_great_bounds(self):
        some = Dials(MANY_DIVISORS, tuple(divisors_of_many()[::3]))
        slow = sum(dial in some for dial in range(GREATEST - 999, GREATEST + 1))
        self.assertEqual(some.many(GREATEST) - some.many(GREATEST - 1000), slow)

    def test_many_of_no_number(self):
        for upto in NO_INTEGERS + (0, -1, GREATEST + 1, 10 ** 12):
            self.refused(BadNumber, upto, EVEN.many, upto)
            self.refused(BadNumber, upto, NONE.many, upto)


class Combining(Refusals):
    def test_operators_by_listing(self):
        for one, other in product(small_sets(), repeat=2):
            top = lcm(one[0], other[0])
            limit = 12 + reach(top)
            left, right = listed(*one, limit), listed(*other, limit)
            first, second = Dials(*one), Dials(*other)
            pairs = list(zip(left, right))
            self.same(first | second, [a or b for a, b in pairs], top)
            self.same(first & second, [a and b for a, b in pairs], top)
            self.same(first - second, [a and not b for a, b in pairs], top)
            self.same(first ^ second, [a != b for a, b in pairs], top)

    def same(self, made, marks, top):
        self.assertIs(made.__class__, Dials)
        self.assertEqual(told(made), least(marks, 12, top))

    def test_all_others_by_listing(self):
        for whole, shares, others in small_sets():
            marks = listed(whole, shares, others, 12 + reach(whole))
            turned = [False, False] + [not mark for mark in marks[2:]]
            self.same(~Dials(whole, shares, others), turned, whole)

    def test_orders_by_listing(self):
        for one, other in product(small_sets(), repeat=2):
            limit = 12 + lcm(one[0], other[0])
            pairs = list(zip(listed(*one, limit), listed(*other, limit)))
            within = all(b or not a for a, b in pairs)
            around = all(a or not b for a, b in pairs)
            first, second = Dials(*one), Dials(*other)
            self.assertIs(first <= second, within)
            self.assertIs(first < second, within and not around)
            self.assertIs(first >= second, around)
            self.assertIs(first > second, around and not within)
            self.assertIs(first == second, within and around)
            self.assertIs(first != second, not (within and around))

    def test_orders_by_others_alone(self):
        less, more = Dials(2, (2,), (4,)), Dials(2, (2,), (5,))
        self.assertEqual([less < EVEN, EVEN < less, EVEN < more, more < EVEN], [True, False, True, False])
        self.assertEqual([less <= more, more <= less, less <= less, less < less], [True, False, True, False])

    def test_operators_change_nothing(self):
        one, other = Dials(4, (4,), (6,)), Dials(3, (3,), (4,))
        held = one
        held |= other
        held &= ~one
        held -= EVEN
        held ^= ODD
        self.assertEqual([one.text, other.text], ["4 : 4 : 6", "3 : 3 : 4"])

    def test_what_others_come_to(self):
        self.assertEqual((EVEN & Dials(1, (), (4, 5))).text, "1 : - : 4")
        self.assertEqual((EVEN | Dials(1, (), (4, 5))).text, "2 : 2 : 5")
        self.assertEqual((EVEN - Dials(1, (), (4, 5))).text, "2 : 2 : 4")
        self.assertEqual((EVEN ^ Dials(1, (), (4, 5))).text, "2 : 2 : 4 5")
        self.assertEqual((Dials(1, (), (2, GREATEST)) | EVEN).text, "2 : 2 : -")
        self.assertEqual((Dials(1, (), (GREATEST,)) | ODD).text, "2 : 1 : 1000000000")


class TooGreatSets(Refusals):
    """a, b and c are primes with a * b * c far beyond the bound."""

    a, b, c = 99991, 99989, 1009

    def too_great(self, call):
        with self.assertRaises(TooGreat) as held:
            call()
        self.assertEqual(held.exception.value, GREATEST)
        self.assertIs(held.exception.value.__class__, int)

    def apart(self):
        """Two sets without a common dial, the common multiple of whose wholes is a * b * c."""
        first = Dials(self.a * self.c, (self.a * self.c,), (7,))
        second = Dials(self.b * self.c, (self.b,), (7, 9))
        return first, second

    def test_a_lesser_whole_comes(self):
        first, second = self.apart()
        self.assertEqual((first & second).text, "1 : - : 7")
        self.assertEqual((first - second).text, f"{self.a * self.c} : {self.a * self.c} : -")
        self.assertEqual((second - first).text, f"{self.b * self.c} : {self.b} : 9")
        self.assertEqual((~first | ~second).text, "1 : 1 : 7")
        self.assertEqual((second - ~first).text, "1 : - : 7")

    def test_no_lesser_whole_comes(self):
        first, second = self.apart()
        self.too_great(lambda: first | second)
        self.too_great(lambda: second | first)
        self.too_great(lambda: first ^ second)
        self.too_great(lambda: ~first & ~second)
        self.too_great(lambda: ~first - second)

    def test_just_beyond_the_bound(self):
        great, three = Dials(GREATEST, (GREATEST,)), Dials(3, (3,))
        self.too_great(lambda: great & three)
        self.too_great(lambda: great | three)
        self.too_great(lambda: great - three)
        self.too_great(lambda: three - great)
        self.too_great(lambda: great ^ three)
        self.assertEqual((Dials(5 ** 9, (5 ** 9,)) & Dials(512, (512,))).text, great.text)
        self.too_great(lambda: Dials(5 ** 9, (5 ** 9,)) & Dials(1024, (1024,)))

    def test_another_whole_comes_than_that_of_either(self):
        a, c = 99991, 4999
        first = Dials(2 * a * c, (2 * c, a, 2 * a, 2 * a * c))
        second = Dials(3 * c, (3 * c,))
        self.assertEqual((first.whole, second.whole), (2 * a * c, 3 * c))
        self.assertEqual((first & second).text, f"{6 * c} : {6 * c} : -")
        self.too_great(lambda: first | second)

    def test_powers_of_primes(self):
        first = Dials(2 ** 29, (2 ** 29,))
        second = Dials(2 * 3 ** 18, (3 ** 18,))
        self.assertEqual((first & second).text, "1 : - : -")
        self.assertEqual((first - second).text, first.text)
        self.assertEqual((second - first).text, second.text)
        self.too_great(lambda: first | second)

    def test_orders_and_the_rest_are_never_too_great(self):
        first, second = self.apart()
        self.assertEqual([first <= second, first < second, first >= second, first > second], [False] * 4)
        self.assertIs(first <= ~second, False)
        bare = Dials(self.b * self.c, (self.b,))
        self.assertEqual([first <= ~bare, first < ~bare, ~bare >= first, ~bare > first], [True] * 4)
        self.assertIs(first == second, False)
        self.assertEqual((~~first).text, first.text)

    def test_equal_great_sets(self):
        great = Dials(PRIME, (PRIME,), (3,))
        again = Dials(PRIME, (PRIME,), (3,))
        self.assertEqual([great <= again, great < again, great == again, great > again], [True, False, True, False])
        self.assertEqual((great ^ again).text, "1 : - : -")


class Operands(unittest.TestCase):
    def test_other_operands(self):
        calls = (
            lambda a, b: a | b, lambda a, b: a & b, lambda a, b: a - b, lambda a, b: a ^ b, lambda a, b: a <= b,
            lambda a, b: a < b, lambda a, b: a >= b, lambda a, b: a > b,
        )
        for value in ANY:
            if isinstance(value, Dials):
                continue
            for call in calls:
                with self.assertRaises(TypeError):
                    call(EVEN, value)
                with self.assertRaises(TypeError):
                    call(value, EVEN)

    def test_operators_that_are_not_there(self):
        calls = (
            lambda: EVEN + ODD, lambda: EVEN * 2, lambda: 2 * EVEN, lambda: EVEN % 2, lambda: -EVEN, lambda: EVEN // ODD,
            lambda: EVEN[0], lambda: len(EVEN), lambda: EVEN << 1, lambda: EVEN(2), lambda: Sum() + EVEN,
        )
        for call in calls:
            with self.assertRaises(TypeError):
                call()


class Equality(unittest.TestCase):
    def test_the_same_dials(self):
        self.assertTrue(Dials(4, (2, 4)) == EVEN)
        self.assertFalse(Dials(4, (2, 4)) != EVEN)
        self.assertTrue(Dials(6, (2, 6), (5,)) == Dials(2, (2,), (5,)))
        self.assertTrue(Dials(30, ()) == NONE)

    def test_unlike_dials(self):
        for other in (ODD, NONE, EVERY, Dials(2, (2,), (2,)), Dials(4, (4,)), Dials(6, (6,))):
            self.assertFalse(EVEN == other)
            self.assertTrue(EVEN != other)

    def test_equal_to_nothing_else(self):
        for one in (NONE, EVERY, EVEN, Dials(1, (), (2,))):
            for value in ANY + (one.text, told(one), [one], (one,), 2, {2: True}):
                if not isinstance(value, Dials):
                    self.assertIs(one == value, False)
                    self.assertIs(value == one, False)
                    self.assertIs(one != value, True)


class ByName(unittest.TestCase):
    def test_arguments_by_name(self):
        self.assertEqual(Dials(whole=4, shares=(2, 4), others=(6,)).text, "2 : 2 : 6")
        self.assertEqual(Dials(others=(6,), shares=(2, 4), whole=4).text, "2 : 2 : 6")
        self.assertEqual(Dials(whole=4, shares=(2, 4)).others, ())
        self.assertEqual(Dials.of(text="2 : 2 : 6").others, (6,))
        self.assertEqual(EVEN.after(dial=7), 8)
        self.assertEqual(EVEN.many(upto=7), 3)


if __name__ == "__main__":
    unittest.main()
