"""What rows tell of Sums on one dial."""

from math import gcd

from dialsums.basics import are_within, is_ascending, is_between, is_dial, is_name, times_to_gcd
from dialsums.errors import BadDial, BadRows, BadSum, BadSums
from dialsums.sums import Sum

GREATEST_MANY = 9999
MOST_ROWS = 12
MOST_GOALS = 4


def known(rows, goal, dial):
    """(part, weights, change): the part of the goal, how the rows show it, and how nothing more is known."""
    _check_known(rows, goal, dial)
    part, change = _part_and_change(rows, goal, dial)
    return part, _weights(rows, goal, dial), change


def shows_known(rows, goal, dial, value):
    """Whether any value is such a result as is told for known."""
    _check_known(rows, goal, dial)
    if not isinstance(value, tuple) or len(value) != 3:
        return False
    part, weights, change = value
    if not is_between(part, 1, dial) or dial % part != 0:
        return False
    # Weights show that the part is a multiple of this one, a change that it is a divisor.
    if not _are_numbers(weights, len(rows), dial) or not _is_change(change, dial):
        return False
    if not _is_nothing(goal * (dial // part) - _weighed(rows, weights), dial):
        return False
    return _is_kept(rows, goal, dial, part, change)


def leak(rows, goals, dial):
    """None if the rows tell nothing of the goals; otherwise (shares, weights) of what they tell."""
    _check_leak(rows, goals, dial)
    names = names_of(rows + goals)
    vectors = _goals_against_rows(goals, rows, [_integers(goal, names, dial) for goal in goals], names, dial)
    leader = _first_leader(vectors, len(names), len(names), dial)
    if leader is None:
        return None
    end = 2 * len(names) + len(goals)
    return tuple(leader[2 * len(names):end]), tuple(leader[end:])


def shows_leak(rows, goals, dial, value):
    """Whether any value is such a result as is told for leak."""
    _check_leak(rows, goals, dial)
    if value is None:
        return leak(rows, goals, dial) is None
    if not isinstance(value, tuple) or len(value) != 2:
        return False
    shares, weights = value
    if not _are_numbers(shares, len(goals), dial) or not _are_numbers(weights, len(rows), dial):
        return False
    shared = _weighed(goals, shares)
    return not _is_nothing(shared, dial) and _is_nothing(shared - _weighed(rows, weights), dial)


def is_goal(value):
    """Whether any value is a Sum that can be a goal, or a row."""
    return isinstance(value, Sum) and are_within([many for name, many in value.parts], GREATEST_MANY)


def are_rows(value):
    """Whether any value is rows."""
    return _are_goals(value, 0, MOST_ROWS)


def are_goals(value):
    """Whether any value is goals."""
    return _are_goals(value, 1, MOST_GOALS)


def _are_goals(value, low, high):
    """Whether any value is a tuple of such Sums, so many."""
    if not isinstance(value, tuple) or not low <= len(value) <= high:
        return False
    for one in value:
        if not is_goal(one):
            return False
    return True


def _check_known(rows, goal, dial):
    """Refuses arguments of known."""
    if not are_rows(rows):
        raise BadRows(rows)
    if not is_goal(goal):
        raise BadSum(goal)
    if not is_dial(dial):
        raise BadDial(dial)


def _check_leak(rows, goals, dial):
    """Refuses arguments of leak."""
    if not are_rows(rows):
        raise BadRows(rows)
    if not are_goals(goals):
        raise BadSums(goals)
    if not is_dial(dial):
        raise BadDial(dial)


def names_of(totals):
    """All names that stand in these Sums, ascending."""
    found = {name: True for total in totals for name in total.names}
    return sorted([str(name) for name in found])


def _integers(total, names, dial):
    """The integers of a Sum at these names, round the dial."""
    return [total[name] % dial for name in names]


def _part_and_change(rows, goal, dial):
    """The part of the goal, and a change of the numbers by which it becomes just so much more."""
    names = names_of(rows + (goal,))
    # Each name gives what one more of it adds to the rows and to the goal: changes are sums of these.
    vectors = []
    for at, name in enumerate(names):
        vectors.append([total[name] % dial for total in rows + (goal,)] + _unit(at, len(names)))
    leader = _first_leader(vectors, len(rows), 1, dial)
    if leader is None:
        return dial, ()
    least = _led_by_gcd(leader, len(rows), dial)
    numbers = least[len(rows) + 1:]
    return least[len(rows)], tuple([(name, number) for name, number in zip(names, numbers) if number != 0])


def _weights(rows, goal, dial):
    """How many times the rows come to the least number of goals that they come to."""
    names = names_of(rows + (goal,))
    leader = _first_leader(_goals_against_rows((goal,), rows, [[1]], names, dial), len(names), 1, dial)
    if leader is None:
        # Only as many goals as the dial has marks come to nothing, and no row is needed for that.
        return tuple([0 for _ in rows])
    return tuple(_led_by_gcd(leader, len(names), dial)[len(names) + 2:])


def _goals_against_rows(goals, rows, marks, names, dial):
    """A vector for each goal and each row: its integers at the names (less them for rows), its marks, and which it is.

    A sum of these vectors that has 0 at all names shows goals that the rows come to.
    """
    totals = goals + tuple([-row for row in rows])
    vectors = []
    for at, total in enumerate(totals):
        marked = marks[at] if at < len(goals) else [0 for _ in marks[0]]
        vectors.append(_integers(total, names, dial) + marked + _unit(at, len(totals)))
    return vectors


def _unit(at, length):
    """1 in this place, 0 in all others."""
    return [int(place == at) for place in range(length)]


def _first_leader(vectors, skipped, tried, dial):
    """A sum of vectors that has 0 in the columns skipped, and not 0 in the first of those tried where one has it.

    In this column all such sums have multiples of what the leader has there. None, if all have 0 in all those columns.
    """
    left = vectors
    for column in range(skipped + tried):
        leader, left = _swept(left, column, dial)
        if leader is not None and column >= skipped:
            return leader
    return None


def _swept(vectors, column, dial):
    """(leader, others): the others make all sums of these vectors with 0 in this column, with the leader all sums."""
    leader = None
    others = []
    for vector in vectors:
        if leader is None and vector[column] != 0:
            leader = vector
        elif leader is None:
            others.append(vector)
        else:
            leader, rest = _parted(leader, vector, column, dial)
            others.append(rest)
    if leader is not None:
        # On a dial that is no prime, less than dial times the leader can have 0 there, and not yet in all columns.
        others.append(_multiple(leader, dial // gcd(leader[column], dial), dial))
    return leader, [other for other in others if any(other)]


def _parted(one, other, column, dial):
    """Two vectors that make the same sums as these, the second with 0 in this column."""
    while other[column] != 0:
        times = one[column] // other[column]
        one, other = other, [(high - times * low) % dial for high, low in zip(one, other)]
    return one, other


def _multiple(vector, times, dial):
    """So many times a vector."""
    return [times * number % dial for number in vector]


def _led_by_gcd(leader, column, dial):
    """The multiple of the leader with a divisor of the dial in this column."""
    return _multiple(leader, times_to_gcd(leader[column], dial), dial)


def _are_numbers(value, length, dial):
    """Whether any value is a tuple of so many integers from 0 to dial - 1."""
    if not isinstance(value, tuple) or len(value) != length:
        return False
    for number in value:
        if not is_between(number, 0, dial - 1):
            return False
    return True


def _is_change(value, dial):
    """Whether any value is an ascending tuple of (name, number) that changes numbers."""
    if not isinstance(value, tuple):
        return False
    for pair in value:
        if not isinstance(pair, tuple) or len(pair) != 2:
            return False
        if not is_name(pair[0]) or not is_between(pair[1], 1, dial - 1):
            return False
    return is_ascending([pair[0] for pair in value])


def _is_kept(rows, goal, dial, part, change):
    """Whether the change keeps each row's value, and the goal's becomes part more."""
    for row in rows:
        if _changed(row, change) % dial != 0:
            return False
    return (_changed(goal, change) - part) % dial == 0


def _changed(total, change):
    """How much more a Sum comes to behind a change."""
    return sum([total[name] * number for name, number in change])


def _weighed(totals, weights):
    """All Sums times their weights, added."""
    added = Sum()
    for total, weight in zip(totals, weights):
        added = added + total * weight
    return added


def _is_nothing(total, dial):
    """Whether a Sum has a multiple of the dial at each name."""
    return len(total % dial) == 0
