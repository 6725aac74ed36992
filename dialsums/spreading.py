"""What rows tell on all dials at once.

By exchanges of rows, exchanges of names, and additions of one to another, rows come to a diagonal: its integers, but
for 0, are their measures. On a dial m the rows can show as many values, all together, as the product of m // gcd(m,
measure) over the measures tells. With the goal among them they can show m // part times as many; and goals are hidden,
if rows and goals together can show as many as the rows times the goals. Whether two such products are equal can be told
prime by prime.
"""

from math import gcd

from dialsums.basics import coprime_base, divisors, exponent, factored, factored_within, powers
from dialsums.dials import GREATEST, Dials
from dialsums.errors import BadRows, BadSum, BadSums, TooGreat
from dialsums.telling import are_goals, are_rows, integers_at, is_goal, names_of


class Pattern:
    """A set of dials that is told prime by prime.

    marks has for some primes whether each exponent from 0 on can stand in a dial, the last mark for all greater ones,
    too. All other primes can stand with any exponent if the pattern is open, and in no dial otherwise.
    """

    def __init__(self, is_open, marks):
        self.is_open = is_open
        self.marks = marks


def parts(rows, goal):
    """(word, whole, table): how the part of the goal hangs on the dial."""
    _check_rows_and_goal(rows, goal)
    fewer, more = _measures_of(rows), _measures_of(rows + (goal,))
    whole = 1
    for base in coprime_base(fewer + more):
        whole = whole * powers(base, _settled(base, fewer, more))[-1]
    if whole > GREATEST:
        raise TooGreat(GREATEST)
    is_over = len(fewer) == len(more)
    table = []
    for share in _all_divisors(whole):
        number = _many_values(more, share) // _many_values(fewer, share)
        table.append((share, number if is_over else share // number))
    return "over" if is_over else "part", whole, tuple(table)


def told(rows, goal):
    """The set of all dials on which the part of the goal is the dial itself."""
    return dials_of(where_told(rows, goal))


def hidden(rows, goals):
    """The set of all dials on which the rows tell nothing of the goals."""
    return dials_of(where_hidden(rows, goals))


def where_told(rows, goal):
    """The pattern of what told tells."""
    _check_rows_and_goal(rows, goal)
    return equal_on(_measures_of(rows), _measures_of(rows + (goal,)))


def where_hidden(rows, goals):
    """The pattern of what hidden tells."""
    if not are_rows(rows):
        raise BadRows(rows)
    if not are_goals(goals):
        raise BadSums(goals)
    return equal_on(_measures_of(rows) + _measures_of(goals), _measures_of(rows + goals))


def _check_rows_and_goal(rows, goal):
    """Refuses arguments of parts and told."""
    if not are_rows(rows):
        raise BadRows(rows)
    if not is_goal(goal):
        raise BadSum(goal)


def _measures_of(totals):
    """The measures of these Sums."""
    names = names_of(totals)
    return measures([integers_at(total, names) for total in totals])


def measures(vectors):
    """The measures of rows with these integers, in any sequence."""
    found = []
    left = _without_nothing(vectors)
    while len(left) > 0:
        row, column = _least_place(left)
        pivot = left[row]
        left = left[:row] + left[row + 1:]
        left = [_lessened(vector, pivot, column) for vector in left]
        if not any([vector[column] for vector in left]):
            # No other row has this column: so others can lose multiples of it, by which the pivot alone is changed.
            pivot = _rests(pivot, column)
            if len(_without_zeros(pivot)) == 1:
                found.append(abs(pivot[column]))
                pivot = []
        left = _without_nothing(left + [pivot])
    return found


def _without_nothing(vectors):
    """Those of the vectors that have not 0 in all columns."""
    return [vector for vector in vectors if any(vector)]


def _least_place(vectors):
    """(row, column) of an integer that is not 0, and of which no other one is nearer to 0."""
    least = 0
    place = (0, 0)
    for row, vector in enumerate(vectors):
        for column, number in enumerate(vector):
            if number != 0 and (least == 0 or abs(number) < least):
                least = abs(number)
                place = (row, column)
    return place


def _without_zeros(vector):
    """The integers of a vector that are not 0."""
    return [number for number in vector if number != 0]


def _rests(pivot, column):
    """The pivot with the rests by its integer in this column, in all other ones."""
    return [number if at == column else number % pivot[column] for at, number in enumerate(pivot)]


def _lessened(vector, pivot, column):
    """The vector less so many times the pivot that a rest is left in this column."""
    times = vector[column] // pivot[column]
    return [number - times * less for number, less in zip(vector, pivot)]


def _many_values(found, dial):
    """How many values Sums with these measures can show, all together, on a dial (one, if it had one mark)."""
    many = 1
    for measure in found:
        many = many * (dial // gcd(dial, measure))
    return many


def _settled(base, fewer, more):
    """The exponent of the base in the least whole by which the parts can be told."""
    low, high = _exponents(base, fewer), _exponents(base, more)
    growth = len(more) - len(fewer)
    many = _greatest(low + high)
    last = _excess(low, high, many) - growth * many
    while many > 0 and _excess(low, high, many - 1) - growth * (many - 1) == last:
        many = many - 1
    return many


def equal_on(some, others):
    """The pattern of all dials on which rows with these measures, and rows with those, can show equally many values.

    Those must be able to show as many on each dial, or more.
    """
    # With more measures come more values, on all dials but finitely many.
    is_open = len(some) == len(others)
    marks = {}
    for base in coprime_base(some + others):
        found = _equal_marks(base, some, others)
        # Where the base changes nothing it need not be factored, however great it is.
        if found != _usual_marks(is_open):
            for prime, many in _factors(base):
                marks[prime] = _trimmed(_stretched(found, many))
    return Pattern(is_open, marks)


def _equal_marks(base, some, others):
    """Whether measures with these exponents of the base tell equally many values, by each exponent in the dial."""
    low, high = _exponents(base, some), _exponents(base, others)
    # Beyond the greatest exponent the excess grows evenly, or not at all.
    last = _greatest(low + high) + 1
    return _trimmed([_excess(low, high, many) == 0 for many in range(last + 1)])


def _usual_marks(is_open):
    """The marks of a prime that is not named in a pattern."""
    return [True] if is_open else [True, False]


def _trimmed(marks):
    """The marks without those at the end that tell what the one ahead tells."""
    last = len(marks) - 1
    while last > 0 and marks[last] == marks[last - 1]:
        last = last - 1
    return marks[:last + 1]


def _stretched(marks, many):
    """The marks of a prime that stands so many times in the base, by those of the base."""
    found = []
    for number in range(len(marks) - 1):
        # Between two exponents of the base the excess grows evenly: it is 0 where it is 0 at both ends.
        found.append(marks[number])
        found.extend([marks[number] and marks[number + 1]] * (many - 1))
    return found + marks[-1:]


def _factors(base):
    """The primes of the base, each with its exponent."""
    found = factored_within(base)
    if found is None:
        raise TooGreat(GREATEST)
    return found


def marks_of(pattern, prime):
    """Whether each exponent of this prime can stand in a dial of the pattern, the last mark for all greater ones."""
    return pattern.marks.get(prime, _usual_marks(pattern.is_open))


def met(patterns):
    """The pattern of all dials that are in each of these."""
    is_open = all([pattern.is_open for pattern in patterns])
    marks = {}
    for prime in primes_of(patterns):
        lists = [marks_of(pattern, prime) for pattern in patterns]
        longest = max([len(one) for one in lists])
        found = _trimmed([all([mark_at(one, many) for one in lists]) for many in range(longest)])
        if found != _usual_marks(is_open):
            marks[prime] = found
    return Pattern(is_open, marks)


def primes_of(patterns):
    """All primes that are named in some of these patterns."""
    return list({prime: True for pattern in patterns for prime in pattern.marks})


def mark_at(marks, many):
    """The mark of an exponent."""
    return marks[min(int(many), len(marks) - 1)]


def dials_met(patterns):
    """The set of all dials that are in each of these patterns, of which none is too great either."""
    for pattern in patterns:
        dials_of(pattern)
    return dials_of(met(patterns))


def dials_of(pattern):
    """The set of dials of a pattern."""
    whole = 1
    for prime, marks in pattern.marks.items():
        # In a pattern that is not open the last mark stands behind the greatest exponent of a dial.
        whole = whole * powers(prime, len(marks) - (1 if pattern.is_open else 2))[-1]
    if whole > GREATEST:
        raise TooGreat(GREATEST)
    found = [1]
    for prime, marks in pattern.marks.items():
        steps = [power for power, mark in zip(powers(prime, len(marks) - 1), marks) if mark]
        found = [low * step for low in found for step in steps]
    shares = tuple(sorted([int(one) for one in found]))
    return Dials(whole, shares) if pattern.is_open else Dials(1, (), shares[1:])


def _excess(some, others, many):
    """The exponent in how many values the others tell, less that of some, if a dial has this one."""
    return _summed_rests(others, many) - _summed_rests(some, many)


def _summed_rests(exponents, many):
    """How much more this is than each of the exponents that are less, all together."""
    return sum([many - one for one in exponents if one < many])


def _exponents(base, found):
    """The exponents of the base in these integers."""
    return [exponent(measure, base) for measure in found]


def _greatest(exponents):
    """The greatest of these exponents, of which there is one at least."""
    return max([int(one) for one in exponents])


def _all_divisors(number):
    """All divisors of an integer from 1 to 10 ** 9, ascending."""
    return sorted([int(one) for one in divisors(factored(number))])
