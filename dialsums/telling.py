"""What rows tell of Sums on one dial."""

from math import gcd

from dialsums.basics import are_numbers, are_within, is_ascending, is_between, is_dial, is_name, times_to_gcd
from dialsums.errors import BadDial, BadRows, BadSum, BadSums
from dialsums.sums import Sum

GREATEST_MANY = 9999
MOST_ROWS = 12
MOST_GOALS = 4


def known(rows, goal, dial):
    """(part, weights, change): the part of the goal, how the rows show it, and how nothing more is known."""
    _check_known(rows, goal, dial)
    part, change = part_and_change(rows, goal, dial)
    return part, _weights(rows, goal, dial), change


def shows_known(rows, goal, dial, value):
    """Whether any value is such a result as is told for known."""
    _check_known(rows, goal, dial)
    if not isinstance(value, tuple) or len(value) != 3:
        return False
    part, weights, change = value
    if not is_between(part, 1, dial) or dial % part != 0:
        return False
    # Weights show that the part is a multiple of this one, a change that it is a divisor.
    if not are_numbers(weights, len(rows), dial) or not _is_change(change, dial):
        return False
    if not _is_nothing(goal * (dial // part) - _weighed(rows, weights), dial):
        return False
    return _is_kept(rows, goal, dial, part, change)


def leak(rows, goals, dial):
    """None if the rows tell nothing of the goals; otherwise (shares, weights) of what they tell."""
    _check_leak(rows, goals, dial)
    names = names_of(rows + goals)
    vectors = _goals_against_rows(goals, rows, [_integers_round(goal, names, dial) for goal in goals], names, dial)
    leader = _first_leader(vectors, len(names), len(names), dial)
    if leader is None:
        return None
    end = 2 * len(names) + len(goals)
    return tuple(leader[2 * len(names):end]), tuple(leader[end:])


def shows_leak(rows, goals, dial, value):
    """Whether any value is such a result as is told for leak."""
    _check_leak(rows, goals, dial)
    if value is None:
        return leak(rows, goals, dial) is None
    if not isinstance(value, tuple) or len(value) != 2:
        return False
    shares, weights = value
    if not are_numbers(shares, len(goals), dial) or not are_numbers(weights, len(rows), dial):
        return False
    shared = _weighed(goals, shares)
    return not _is_nothing(shared, dial) and _is_nothing(shared - _weighed(rows, weights), dial)


def is_goal(value):
    """Whether any value is a Sum that can be a goal, or a row."""
    return isinstance(value, Sum) and are_within([many for name, many in value.parts], GREATEST_MANY)


def is_goal_of(names, value):
    """Whether any value is a Sum of some of these names that can be a goal."""
    return is_goal(value) and all([name in names for name in value.names])


def are_rows(value):
    """Whether any value is rows."""
    return _are_goals(value, 0, MOST_ROWS)


def are_goals(value):
    """Whether any value is goals."""
    return _are_goals(value, 1, MOST_GOALS)


def _are_goals(value, low, high):
    """Whether any value is a tuple of such Sums, so many."""
    if not isinstance(value, tuple) or not low <= len(value) <= high:
        return False
    for one in value:
        if not is_goal(one):
            return False
    return True


def _check_known(rows, goal, dial):
    """Refuses arguments of known."""
    if not are_rows(rows):
        raise BadRows(rows)
    if not is_goal(goal):
        raise BadSum(goal)
    if not is_dial(dial):
        raise BadDial(dial)


def _check_leak(rows, goals, dial):
    """Refuses arguments of leak."""
    if not are_rows(rows):
        raise BadRows(rows)
    if not are_goals(goals):
        raise BadSums(goals)
    if not is_dial(dial):
        raise BadDial(dial)


def names_of(totals):
    """All names that stand in these Sums, ascending."""
    found = {name: True for total in totals for name in total.names}
    return sorted([str(name) for name in found])


def integers_at(total, names):
    """The integers of a Sum at these names."""
    return [total[name] for name in names]


def _integers_round(total, names, dial):
    """The integers of a Sum at these names, round the dial."""
    return [number % dial for number in integers_at(total, names)]


def part_and_change(rows, goal, dial):
    """The part of the goal, and a change of the numbers by which it becomes just so much more."""
    names = names_of(rows + (goal,))
    # Each name gives what one more of it adds to the rows and to the goal: changes are sums of these.
    vectors = []
    for at, name in enumerate(names):
        vectors.append([total[name] % dial for total in rows + (goal,)] + unit(at, len(names)))
    leader = _first_leader(vectors, len(rows), 1, dial)
    if leader is None:
        return dial, ()
    least = led_by_gcd(leader, len(rows), dial)
    numbers = least[len(rows) + 1:]
    return least[len(rows)], tuple([(name, number) for name, number in zip(names, numbers) if number != 0])


def _weights(rows, goal, dial):
    """How many times the rows come to the least number of goals that they come to."""
    names = names_of(rows + (goal,))
    leader = _first_leader(_goals_against_rows((goal,), rows, [[1]], names, dial), len(names), 1, dial)
    if leader is None:
        # Only as many goals as the dial has marks come to nothing, and no row is needed for that.
        return tuple([0 for _ in rows])
    return tuple(led_by_gcd(leader, len(names), dial)[len(names) + 2:])


def _goals_against_rows(goals, rows, marks, names, dial):
    """A vector for each goal and each row: its integers at the names (less them for rows), its marks, and which it is.

    A sum of these vectors that has 0 at all names shows goals that the rows come to.
    """
    totals = goals + tuple([-row for row in rows])
    vectors = []
    for at, total in enumerate(totals):
        marked = marks[at] if at < len(goals) else [0 for _ in marks[0]]
        vectors.append(_integers_round(total, names, dial) + marked + unit(at, len(totals)))
    return vectors


def unit(at, length):
    """1 in this place, 0 in all others."""
    return [int(place == at) for place in range(length)]


def _first_leader(vectors, skipped, tried, dial):
    """A sum of vectors that has 0 in the columns skipped, and not 0 in the first of those tried where one has it.

    In this column all such sums have multiples of what the leader has there. None, if all have 0 in all those columns.
    """
    left = vectors
    for column in range(skipped + tried):
        leader, left = swept(left, column, dial)
        if leader is not None and column >= skipped:
            return leader
    return None


def swept(vectors, column, dial):
    """(leader, others): the others make all sums of these vectors with 0 in this column, with the leader all sums."""
    leader = None
    others = []
    for vector in vectors:
        if leader is None and vector[column] != 0:
            leader = vector
        elif leader is None:
            others.append(vector)
        else:
            leader, rest = _parted(leader, vector, column, dial)
            others.append(rest)
    if leader is not None:
        # On a dial that is no prime, less than dial times the leader can have 0 there, and not yet in all columns.
        others.append(_multiple(leader, dial // gcd(leader[column], dial), dial))
    return leader, [other for other in others if any(other)]


def ended(vectors, skipped, dial):
    """What makes all sums of these vectors that have 0 in the columns skipped, by the other columns alone."""
    left = vectors
    for column in range(skipped):
        _, left = swept(left, column, dial)
    return [vector[skipped:] for vector in left]


def knowledge_of(vectors, length, dial):
    """The one tuple of rows that makes, with multiples of the dial, the same sums as these vectors (section 14)."""
    rows = []
    left = vectors
    for column in range(length):
        leader, left = swept(left, column, dial)
        if leader is None:
            rows.append([dial * one for one in unit(column, length)])
        else:
            rows.append(led_by_gcd(leader, column, dial))
    return tuple([_with_rests(rows, at) for at in range(length)])


def _with_rests(rows, at):
    """The row with rests in the columns behind its own, by what the other rows have there."""
    row = rows[at]
    for column in range(at + 1, len(rows)):
        row = less(row, rows[column], row[column] // rows[column][column])
    return tuple(row)


def less(vector, other, times):
    """A vector less so many times another one."""
    return [high - times * low for high, low in zip(vector, other)]


def part_by(knowledge, vector, dial):
    """The part of the sum with these integers in the columns of a knowledge."""
    times = 1
    left = vector
    for column, row in enumerate(knowledge):
        # The row has a divisor of the dial there, so the multiple that it comes to can be reckoned round the dial.
        more = row[column] // gcd(row[column], left[column])
        times = times * more
        left = [more * number % dial for number in left]
        left = less(left, row, left[column] // row[column])
    return dial // times


def _parted(one, other, column, dial):
    """Two vectors that make the same sums as these, the second with 0 in this column."""
    while other[column] != 0:
        rest = less(one, other, one[column] // other[column])
        one, other = other, [number % dial for number in rest]
    return one, other


def _multiple(vector, times, dial):
    """So many times a vector."""
    return [times * number % dial for number in vector]


def led_by_gcd(leader, column, dial):
    """The multiple of the leader with a divisor of the dial in this column."""
    return _multiple(leader, times_to_gcd(leader[column], dial), dial)


def _is_change(value, dial):
    """Whether any value is an ascending tuple of (name, number) that changes numbers."""
    if not isinstance(value, tuple):
        return False
    for pair in value:
        if not isinstance(pair, tuple) or len(pair) != 2:
            return False
        if not is_name(pair[0]) or not is_between(pair[1], 1, dial - 1):
            return False
    return is_ascending([pair[0] for pair in value])


def _is_kept(rows, goal, dial, part, change):
    """Whether the change keeps each row's value, and the goal's becomes part more."""
    for row in rows:
        if _changed(row, change) % dial != 0:
            return False
    return (_changed(goal, change) - part) % dial == 0


def _changed(total, change):
    """How much more a Sum comes to behind a change."""
    return sum([total[name] * number for name, number in change])


def _weighed(totals, weights):
    """All Sums times their weights, added."""
    added = Sum()
    for total, weight in zip(totals, weights):
        added = added + total * weight
    return added


def _is_nothing(total, dial):
    """Whether a Sum has a multiple of the dial at each name."""
    return len(total % dial) == 0
