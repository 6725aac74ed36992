"""Sets of dials that hang on one greatest common divisor, but for finitely many dials."""

from math import gcd, lcm

from dialsums.basics import count_without, divisors, factored, joined, powers
from dialsums.basics import is_ascending, is_between, is_figures, is_integer
from dialsums.errors import BadDial, BadNumber, BadOthers, BadShares, BadText, BadWhole, TooGreat

GREATEST = 10 ** 9

# Whether a dial is in what comes: if it is in neither of two sets, in the second alone, in the first alone, in both.
OF_EITHER = (False, True, True, True)
OF_BOTH = (False, False, False, True)
OF_FIRST_ALONE = (False, False, True, False)
OF_JUST_ONE = (False, True, True, False)


class Dials:
    """All dials of which the greatest common divisor with whole is in shares, or which are in others, not both."""

    def __init__(self, whole, shares, others=()):
        if not is_between(whole, 1, GREATEST):
            raise BadWhole(whole)
        if not _are_shares(shares, whole):
            raise BadShares(shares)
        if not _are_others(others):
            raise BadOthers(others)
        least, kept = _least(whole, factored(whole), shares)
        self._whole = least
        self._shares = kept
        self._others = others
        self._share_marks = {share: True for share in kept}
        self._other_marks = {dial: True for dial in others}

    @property
    def whole(self):
        """The least whole by which the set can be told."""
        return self._whole

    @property
    def shares(self):
        """The shares by the least whole."""
        return self._shares

    @property
    def others(self):
        """The others by the least whole."""
        return self._others

    @property
    def text(self):
        """Whole, shares and others, as Dials.of takes them."""
        return " : ".join([str(self._whole), _listed(self._shares), _listed(self._others)])

    @staticmethod
    def of(text):
        """The set of which this is the text."""
        pieces = text.split(" : ") if isinstance(text, str) else []
        if len(pieces) != 3 or not is_figures(pieces[0]):
            raise BadText(text)
        try:
            made = Dials(int(pieces[0]), _read_list(pieces[1]), _read_list(pieces[2]))
        except (BadWhole, BadShares, BadOthers):
            raise BadText(text) from None
        # The set may have a lesser whole, or its integers be written with zeros ahead.
        if made.text != text:
            raise BadText(text)
        return made

    @property
    def is_empty(self):
        """Whether the set has no dial."""
        return len(self._shares) == 0 and len(self._others) == 0

    @property
    def is_endless(self):
        """Whether the set has endlessly many dials."""
        # Each share is that of endlessly many dials, of which finitely many are others.
        return len(self._shares) > 0

    def after(self, dial):
        """The least dial of the set that is greater, None without one."""
        if not is_between(dial, 1, GREATEST):
            raise BadDial(dial)
        found = [self._after_by(share, dial) for share in self._shares]
        found.extend([other for other in self._others if other > dial and other in self])
        if len(found) == 0:
            return None
        return min([int(one) for one in found])

    def _after_by(self, share, dial):
        """The least greater dial with this share that is none of the others."""
        rest = self._whole // share
        times = dial // share + 1
        while gcd(times, rest) > 1 or times * share in self._other_marks:
            times = times + 1
        return times * share

    def many(self, upto):
        """How many dials of the set are at most so great."""
        if not is_between(upto, 1, GREATEST):
            raise BadNumber(upto)
        total = 0
        primes = [prime for prime, exponent in factored(self._whole)]
        for share in self._shares:
            rest = self._whole // share
            barred = [prime for prime in primes if rest % prime == 0]
            total = total + count_without(barred, upto // share)
        if 1 in self._share_marks:
            # 1 was counted, too, which is no dial.
            total = total - 1
        for other in self._others:
            if other <= upto:
                total = total + (1 if other in self else -1)
        return total

    def has_share_of(self, number):
        """Whether the greatest common divisor of this number and whole is in shares."""
        return gcd(number, self._whole) in self._share_marks

    def __contains__(self, x):
        if not is_integer(x) or x < 2:
            return False
        return self.has_share_of(x) != (x in self._other_marks)

    def __or__(self, other):
        if not isinstance(other, Dials):
            return NotImplemented
        return _combined(self, other, OF_EITHER)

    def __and__(self, other):
        if not isinstance(other, Dials):
            return NotImplemented
        return _combined(self, other, OF_BOTH)

    def __sub__(self, other):
        if not isinstance(other, Dials):
            return NotImplemented
        return _combined(self, other, OF_FIRST_ALONE)

    def __xor__(self, other):
        if not isinstance(other, Dials):
            return NotImplemented
        return _combined(self, other, OF_JUST_ONE)

    def __invert__(self):
        all_shares = divisors(factored(self._whole))
        shares = sorted([int(share) for share in all_shares if share not in self._share_marks])
        return Dials(self._whole, tuple(shares), self._others)

    def __le__(self, other):
        if not isinstance(other, Dials):
            return NotImplemented
        return _is_within(self, other)

    def __lt__(self, other):
        if not isinstance(other, Dials):
            return NotImplemented
        return _is_within(self, other) and not _is_within(other, self)

    def __ge__(self, other):
        if not isinstance(other, Dials):
            return NotImplemented
        return _is_within(other, self)

    def __gt__(self, other):
        if not isinstance(other, Dials):
            return NotImplemented
        return _is_within(other, self) and not _is_within(self, other)

    def __eq__(self, other):
        return (
            isinstance(other, Dials) and self._whole == other._whole
            and self._shares == other._shares and self._others == other._others
        )


def _are_ascending_integers(value, low, high):
    """Whether any value is an ascending tuple of integers from low to high."""
    if not isinstance(value, tuple):
        return False
    for one in value:
        if not is_between(one, low, high):
            return False
    return is_ascending(value)


def _are_shares(value, whole):
    """Whether any value is an ascending tuple of divisors of this whole."""
    if not _are_ascending_integers(value, 1, whole):
        return False
    for share in value:
        if whole % share != 0:
            return False
    return True


def _are_others(value):
    """Whether any value is an ascending tuple of dials that can stand apart."""
    return _are_ascending_integers(value, 2, GREATEST)


def _least(whole, factors, shares):
    """The least whole by which these shares of a whole with these factors can be told, and the shares by it."""
    kept = {share: True for share in shares}
    for prime, many in factors:
        power = powers(prime, many)[-1]
        while power > 1 and _can_lose(prime, power, kept):
            whole = whole // prime
            power = power // prime
            kept = {share: True for share in kept if whole % share == 0}
    return whole, tuple(sorted([int(share) for share in kept]))


def _can_lose(prime, power, shares):
    """Whether the shares tell the same by a whole that has the prime once less than in this power of it."""
    for share in shares:
        if share % power == 0:
            if share // prime not in shares:
                return False
        elif share * prime % power == 0 and share * prime not in shares:
            return False
    return True


def _joined_factors(one, other):
    """The factors of the least common multiple of the wholes of two sets."""
    return joined(factored(one.whole), factored(other.whole))


def _combined(one, other, rule):
    """The set of all dials of which the rule tells that they are in it."""
    factors = _joined_factors(one, other)
    shares = []
    for share in divisors(factors):
        if _ruled(rule, one.has_share_of(share), other.has_share_of(share)):
            shares.append(share)
    # The common multiple may be greater than is allowed, and what comes have a lesser whole all the same.
    whole, kept = _least(lcm(one.whole, other.whole), factors, shares)
    if whole > GREATEST:
        raise TooGreat(GREATEST)
    return Dials(whole, kept, _others_of(one, other, rule))


def _others_of(one, other, rule):
    """The dials of which the rule tells otherwise than of all great ones with the same share."""
    found = []
    for dial in _all_others(one, other):
        usual = _ruled(rule, one.has_share_of(dial), other.has_share_of(dial))
        if _ruled(rule, dial in one, dial in other) != usual:
            found.append(dial)
    return tuple(found)


def _all_others(one, other):
    """The dials that are among the others of one of two sets at least, ascending."""
    marks = {dial: True for dial in one.others + other.others}
    return sorted([int(dial) for dial in marks])


def _ruled(rule, first, second):
    """What the rule tells of what is in the first set or not, and in the second one or not."""
    return rule[2 * int(first) + int(second)]


def _is_within(one, other):
    """Whether all dials of one set are in the other one."""
    for share in divisors(_joined_factors(one, other)):
        if one.has_share_of(share) and not other.has_share_of(share):
            return False
    for dial in _all_others(one, other):
        if dial in one and dial not in other:
            return False
    return True


def _listed(integers):
    """The integers as words, - for none."""
    if len(integers) == 0:
        return "-"
    return " ".join([str(one) for one in integers])


def _read_list(words):
    """The tuple of integers of which these are the words, None if they are no such words."""
    if words == "-":
        return ()
    found = words.split(" ")
    for word in found:
        if not is_figures(word):
            return None
    return tuple([int(word) for word in found])
