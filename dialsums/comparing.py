"""Two plans: on which dials groups know as much of own numbers by one plan as by the other."""

from dialsums.basics import MOST_PEOPLE, groups_of, is_dial, is_integer
from dialsums.errors import BadDial, Unlike
from dialsums.plans import Plan, check_by, is_group
from dialsums.spreading import dials_met, equal_on, measures, met
from dialsums.sums import Sum, sum_of_counts
from dialsums.telling import ended, integers_at, knowledge_of, part_and_change, part_by


def within(one, other, *, by="saw"):
    """The set of all dials on which each group knows no more by one plan than by the other."""
    _check_plans(one, other)
    check_by(by)
    return dials_met(_where_within(one, other, by))


def agreeing(one, other, *, by="saw"):
    """The set of all dials on which all groups know the same by both plans."""
    _check_plans(one, other)
    check_by(by)
    there, back = _where_within(one, other, by), _where_within(other, one, by)
    # Each way must not be too great either, and no single group.
    dials_met(there)
    dials_met(back)
    return dials_met([met(there), met(back)])


def parting(one, other, dial, *, by="saw"):
    """None if all groups know the same by both plans; otherwise a group, and a sum of which it knows unlike parts."""
    _check_parting(one, other, dial, by)
    for group in groups_of(one.people, MOST_PEOPLE):
        first, last = _known_owns(one, group, dial, by), _known_owns(other, group, dial, by)
        for row in first + last:
            part, second = part_by(first, row, dial), part_by(last, row, dial)
            if part != second:
                return group, _goal(one, row), part, second
    return None


def shows_parting(one, other, dial, value, *, by="saw"):
    """Whether any value is such a result as is told for parting."""
    _check_parting(one, other, dial, by)
    if value is None:
        return parting(one, other, dial, by=by) is None
    if not isinstance(value, tuple) or len(value) != 4:
        return False
    group, goal, part, second = value
    if not is_group(group, one.people) or not _is_goal(one, goal):
        return False
    if not is_integer(part) or not is_integer(second) or part == second:
        return False
    rows, others = one.rows(group, by=by), other.rows(group, by=by)
    return part_and_change(rows, goal, dial)[0] == part and part_and_change(others, goal, dial)[0] == second


def _check_plans(one, other):
    """Refuses what is no plan that can be compared with this one."""
    if not isinstance(other, Plan) or other.people != one.people or other.owns != one.owns:
        raise Unlike(other)


def _check_parting(one, other, dial, by):
    """Refuses arguments of parting."""
    _check_plans(one, other)
    if not is_dial(dial):
        raise BadDial(dial)
    check_by(by)


def _names(pairs):
    """The names of the notes of these lines own, or draw."""
    return [note for person, note in pairs]


def _where_within(one, other, by):
    """For each group the pattern of all dials on which it knows no more by one plan than by the other.

    A group does not see a change of own numbers if drawn ones can change so that its rows stay. As many are not seen as
    there are changes, times the values that its rows can show by drawn numbers alone, by those that they can show at
    all. It knows no more by one plan than by the other if as many changes are seen by neither as are not seen by the
    other: the values by one of drawn numbers alone, times those by the other, are as many as those of both together.
    """
    owns, draws, others = _names(one.owns), _names(one.draws), _names(other.draws)
    patterns = []
    for group in groups_of(one.people, MOST_PEOPLE):
        rows, seconds = one.rows(group, by=by), other.rows(group, by=by)
        drawn = [integers_at(row, draws) for row in rows]
        alone = [integers_at(row, owns + others) for row in seconds]
        both = [integers_at(row, owns + draws) + [0 for _ in others] for row in rows]
        both.extend([integers_at(row, owns) + [0 for _ in draws] + integers_at(row, others) for row in seconds])
        patterns.append(equal_on(measures(drawn) + measures(alone), measures(both)))
    return patterns


def _known_owns(plan, group, dial, by):
    """The knowledge of own numbers alone that the group has."""
    draws, owns = _names(plan.draws), _names(plan.owns)
    vectors = []
    for row in plan.rows(group, by=by):
        vectors.append([number % dial for number in integers_at(row, draws + owns)])
    return knowledge_of(ended(vectors, len(draws), dial), len(owns), dial)


def _goal(plan, row):
    """The Sum of own numbers with these integers."""
    return sum_of_counts(dict(zip(_names(plan.owns), row)), 0)


def _is_goal(plan, value):
    """Whether any value is a Sum of own numbers, with the number 0 beside."""
    return isinstance(value, Sum) and value.number == 0 and all([name in _names(plan.owns) for name in value.names])
