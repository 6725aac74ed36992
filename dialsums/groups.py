"""Groups: who knows a sum of hidden numbers, on one dial and on all dials.

A code tells in which of several sets a dial is: it has the figure 2 ** at of the set in this place. If sets are told
prime by prime, a dial's code is what the codes of all its primes, by their exponents, have in common.
"""

from dialsums.basics import MOST_PEOPLE, divisors, exponent, groups_of, is_dial, is_few, powers
from dialsums.dials import GREATEST, Dials
from dialsums.errors import BadDial, BadFew, BadSum, TooGreat
from dialsums.plans import check_by
from dialsums.playing import sources
from dialsums.spreading import dials_met, dials_of, mark_at, marks_of, primes_of, where_hidden, where_told
from dialsums.telling import is_goal_of, part_and_change


class Split:
    """How several patterns part all dials."""

    def __init__(self, patterns):
        sets = [dials_of(pattern) for pattern in patterns]
        # The codes of all dials of sets that are not endless: great dials are in none of these sets.
        self.apart = {dial: _code([dial in one for one in sets]) for dial in _ended(sets)}
        self.start = _code([one.is_endless for one in sets])
        self.codes = {prime: _codes_of_prime(patterns, prime) for prime in primes_of(patterns)}
        # What all other primes together can tell beside each prime.
        self.beside = {prime: _all_met(_without(self.codes, prime), self.start) for prime in self.codes}


def knowers(plan, goal, dial, *, by="saw"):
    """The least groups to whom the goal is told on this dial."""
    check_goal(plan, goal)
    if not is_dial(dial):
        raise BadDial(dial)
    check_by(by)
    groups = groups_of(plan.people, MOST_PEOPLE)
    return _least_groups([group for group in groups if part_and_change(plan.rows(group, by=by), goal, dial)[0] == dial])


def classes(plan, goal, *, by="saw"):
    """(dials, groups) of all sets of dials on which knowers tells the same groups, by their least dials."""
    check_goal(plan, goal)
    check_by(by)
    groups = groups_of(plan.people, MOST_PEOPLE)
    found = {}
    for dials, code in _cells(Split([where_told(plan.rows(group, by=by), goal) for group in groups])):
        found[dials.after(1)] = dials, _least_groups([group for at, group in enumerate(groups) if code >> at & 1 == 1])
    return tuple([found[dial] for dial in sorted([int(least) for least in found])])


def strangers(plan, goal, few, *, by="saw"):
    """The set of all dials on which so few people, who own no number of the goal, see nothing of it."""
    check_goal(plan, goal)
    if not is_few(few):
        raise BadFew(few)
    check_by(by)
    owners = [person for person, note in plan.owns if note in goal.names]
    others = [person for person in plan.people if person not in owners]
    return dials_met([where_hidden(plan.rows(group, by=by), (goal,)) for group in groups_of(others, few)])


def check_goal(plan, goal):
    """Refuses what is no Sum of own and drawn numbers of the plan."""
    if not is_goal_of(sources(plan), goal):
        raise BadSum(goal)


def _least_groups(groups):
    """Those of the groups within which there is no other one of them."""
    return tuple([group for group in groups if not any([_is_less(other, group) for other in groups])])


def _is_less(one, other):
    """Whether one group is within the other one, and not all of it."""
    return one != other and all([person in other for person in one])


def _cells(split):
    """(dials, code) of all sets of dials with the same code."""
    found = []
    for code in _all_met(list(split.codes.values()), split.start):
        found.append((_endless_cell(split, code), code))
    ended = {}
    for dial, code in split.apart.items():
        if code & split.start != code:
            ended.setdefault(code, []).append(dial)
    for code, dials in ended.items():
        found.append((Dials(1, (), _ascending(dials)), code))
    return found


def _ended(sets):
    """All dials of sets that are not endless."""
    return list({dial: True for one in sets if not one.is_endless for dial in one.others})


def _without(codes, prime):
    """The lists of codes of all other primes."""
    return [codes[other] for other in codes if other != prime]


def _codes_of_prime(patterns, prime):
    """What the prime alone tells of a dial's code, by each exponent, the last time for all greater ones, too."""
    lists = [marks_of(pattern, prime) for pattern in patterns]
    longest = max([len(marks) for marks in lists])
    return [_code([mark_at(marks, many) for marks in lists]) for many in range(longest)]


def _code(marks):
    """The code by whether a dial is in each set."""
    return sum([1 << at for at, mark in enumerate(marks) if mark])


def _all_met(lists, start):
    """All codes that come where start is met by one code of each of these lists."""
    found = {start: True}
    for codes in lists:
        found = {one & other: True for one in found for other in codes}
    return list(found)


def _endless_cell(split, code):
    """The set of all dials with this code, which great dials have, too."""
    factors = [(prime, _last_change(split, code, prime)) for prime in split.codes]
    whole = 1
    for prime, many in factors:
        whole = whole * powers(prime, many)[-1]
    if whole > GREATEST:
        raise TooGreat(GREATEST)
    shares = [share for share in divisors(factors) if _usual_code(split, share) == code]
    unusual = [dial for dial in split.apart if (split.apart[dial] == code) != (_usual_code(split, dial) == code)]
    return Dials(whole, _ascending(shares), _ascending(unusual))


def _last_change(split, code, prime):
    """The last exponent of a prime that changes whether this code comes, whatever the others tell."""
    codes, others = split.codes[prime], split.beside[prime]
    many = len(codes) - 1
    while many > 0 and all([(one & codes[many] == code) == (one & codes[many - 1] == code) for one in others]):
        many = many - 1
    return many


def _usual_code(split, number):
    """The code of all great dials that have the primes as often as this number."""
    code = split.start
    for prime in split.codes:
        code = code & mark_at(split.codes[prime], exponent(number, prime))
    return code


def _ascending(integers):
    """The ascending tuple of these integers."""
    return tuple(sorted([int(one) for one in integers]))
