"""What rows tell of Sums on all dials at once.

By exchanges of rows, exchanges of names, and additions of one to another, rows come to a diagonal: its integers, but
for 0, are their measures. On a dial m the rows can show as many values, all together, as the product of m // gcd(m,
measure) over the measures tells. With the goal among them they can show m // part times as many; and goals are hidden,
if rows and goals together can show as many as the rows times the goals.
"""

from math import gcd

from dialsums.basics import coprime_base, divisors, exponent, factored, powers, radical
from dialsums.dials import GREATEST, Dials
from dialsums.errors import BadRows, BadSum, BadSums, TooGreat
from dialsums.telling import are_goals, are_rows, is_goal, names_of


def parts(rows, goal):
    """(word, whole, table): how the part of the goal hangs on the dial."""
    _check_rows_and_goal(rows, goal)
    fewer, more = measures(rows), measures(rows + (goal,))
    whole = 1
    for base in coprime_base(fewer + more):
        whole = whole * powers(base, _settled(base, fewer, more))[-1]
    if whole > GREATEST:
        raise TooGreat(GREATEST)
    is_over = len(fewer) == len(more)
    table = []
    for share in _all_divisors(whole):
        number = _many_values(more, share) // _many_values(fewer, share)
        table.append((share, number if is_over else share // number))
    return "over" if is_over else "part", whole, tuple(table)


def told(rows, goal):
    """The set of all dials on which the part of the goal is the dial itself."""
    _check_rows_and_goal(rows, goal)
    return _equal_on(measures(rows), measures(rows + (goal,)))


def hidden(rows, goals):
    """The set of all dials on which the rows tell nothing of the goals."""
    if not are_rows(rows):
        raise BadRows(rows)
    if not are_goals(goals):
        raise BadSums(goals)
    return _equal_on(measures(rows) + measures(goals), measures(rows + goals))


def _check_rows_and_goal(rows, goal):
    """Refuses arguments of parts and told."""
    if not are_rows(rows):
        raise BadRows(rows)
    if not is_goal(goal):
        raise BadSum(goal)


def measures(totals):
    """The measures of these Sums, in any sequence."""
    names = names_of(totals)
    found = []
    left = _without_nothing([[total[name] for name in names] for total in totals])
    while len(left) > 0:
        row, column = _least_place(left)
        pivot = left[row]
        left = left[:row] + left[row + 1:]
        left = [_lessened(vector, pivot, column) for vector in left]
        if not any([vector[column] for vector in left]):
            # No other row has this column: so others can lose multiples of it, by which the pivot alone is changed.
            pivot = _rests(pivot, column)
            if len(_without_zeros(pivot)) == 1:
                found.append(abs(pivot[column]))
                pivot = []
        left = _without_nothing(left + [pivot])
    return found


def _without_nothing(vectors):
    """Those of the vectors that have not 0 in all columns."""
    return [vector for vector in vectors if any(vector)]


def _least_place(vectors):
    """(row, column) of an integer that is not 0, and of which no other one is nearer to 0."""
    least = 0
    place = (0, 0)
    for row, vector in enumerate(vectors):
        for column, number in enumerate(vector):
            if number != 0 and (least == 0 or abs(number) < least):
                least = abs(number)
                place = (row, column)
    return place


def _without_zeros(vector):
    """The integers of a vector that are not 0."""
    return [number for number in vector if number != 0]


def _rests(pivot, column):
    """The pivot with the rests by its integer in this column, in all other ones."""
    return [number if at == column else number % pivot[column] for at, number in enumerate(pivot)]


def _lessened(vector, pivot, column):
    """The vector less so many times the pivot that a rest is left in this column."""
    times = vector[column] // pivot[column]
    return [number - times * less for number, less in zip(vector, pivot)]


def _many_values(found, dial):
    """How many values Sums with these measures can show, all together, on a dial (one, if it had one mark)."""
    many = 1
    for measure in found:
        many = many * (dial // gcd(dial, measure))
    return many


def _settled(base, fewer, more):
    """The exponent of the base in the least whole by which the parts can be told."""
    low, high = _exponents(base, fewer), _exponents(base, more)
    growth = len(more) - len(fewer)
    many = _greatest(low + high)
    last = _excess(low, high, many) - growth * many
    while many > 0 and _excess(low, high, many - 1) - growth * (many - 1) == last:
        many = many - 1
    return many


def _equal_on(some, others):
    """The set of all dials on which Sums with these measures, and Sums with those, can show equally many values.

    They must be such that if this holds on a dial, it holds on its divisors, too.
    """
    # With more measures come more values, on all dials but finitely many.
    is_endless = len(some) == len(others)
    shared = 1
    beyond = 1
    for base in coprime_base(some + others):
        many = _last_equal(_exponents(base, some), _exponents(base, others))
        if many is not None:
            shared = shared * powers(base, many)[-1]
            beyond = beyond * _radical(base) if is_endless else beyond
    if shared * beyond > GREATEST:
        raise TooGreat(GREATEST)
    shares = tuple(_all_divisors(shared))
    return Dials(shared * beyond, shares) if is_endless else Dials(1, (), shares[1:])


def _last_equal(some, others):
    """The greatest exponent in a dial up to which measures with these tell equally many values, None for all."""
    last = _greatest(some + others)
    many = 0
    while many <= last and _excess(some, others, many + 1) == 0:
        many += 1
    return None if many > last else many


def _excess(some, others, many):
    """The exponent in how many values the others tell, less that of some, if a dial has this one."""
    return _summed_rests(others, many) - _summed_rests(some, many)


def _summed_rests(exponents, many):
    """How much more this is than each of the exponents that are less, all together."""
    return sum([many - one for one in exponents if one < many])


def _exponents(base, found):
    """The exponents of the base in these integers."""
    return [exponent(measure, base) for measure in found]


def _greatest(exponents):
    """The greatest of these exponents, of which there is one at least."""
    return max([int(one) for one in exponents])


def _radical(base):
    """The product of the primes of the base."""
    product = radical(base)
    if product is None:
        raise TooGreat(GREATEST)
    return product


def _all_divisors(number):
    """All divisors of an integer from 1 to 10 ** 9, ascending."""
    return sorted([int(one) for one in divisors(factored(number))])
