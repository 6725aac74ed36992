"""What was seen: which dials there can be, and what is known then, if some notes have told values."""

from dialsums.basics import are_numbers, is_ascending, is_between, is_dial, is_integer
from dialsums.dials import Dials
from dialsums.errors import BadDial, BadSeen, NoFit
from dialsums.groups import check_goal
from dialsums.playing import sources
from dialsums.spreading import dials_of, equal_on, measures
from dialsums.telling import integers_at, led_by_gcd, part_and_change, swept, unit

GREATEST_SEEN = 999


def fitting(plan, notes):
    """The set of all dials on which some numbers fit."""
    _check_seen(plan, notes)
    names = sources(plan)
    rows = [integers_at(plan.row(note), names) for note, number in notes]
    # Numbers fit if the rows can show as many values as they can with what is asked of them as one name more.
    beside = [row + [asked] for row, asked in zip(rows, _asked(plan, notes))]
    dials = dials_of(equal_on(measures(rows), measures(beside)))
    low = _least_beyond(notes)
    if dials.is_endless:
        return Dials(dials.whole, dials.shares, tuple([dial for dial in range(2, low) if dial in dials]))
    return Dials(1, (), tuple([dial for dial in dials.others if dial >= low]))


def could(plan, notes, goal, dial):
    """(rest, part, numbers): the rest that the goal has modulo the part by all numbers that fit, and such numbers."""
    numbers = _checked_fit(plan, notes, goal, dial)
    part = _part(plan, notes, goal, dial)
    return _value(plan, goal, numbers) % part, part, numbers


def shows_could(plan, notes, goal, dial, value):
    """Whether any value is such a result as is told for could."""
    _checked_fit(plan, notes, goal, dial)
    if not isinstance(value, tuple) or len(value) != 3:
        return False
    rest, part, numbers = value
    if not is_integer(rest) or not is_integer(part) or not are_numbers(numbers, len(sources(plan)), dial):
        return False
    for note, number in notes:
        if _value(plan, plan.row(note), numbers) % dial != number:
            return False
    return part == _part(plan, notes, goal, dial) and rest == _value(plan, goal, numbers) % part


def _check_seen(plan, notes):
    """Refuses what is no notes seen."""
    if not isinstance(notes, tuple):
        raise BadSeen(notes)
    for pair in notes:
        if not isinstance(pair, tuple) or len(pair) != 2:
            raise BadSeen(notes)
        if pair[0] not in plan or not is_between(pair[1], 0, GREATEST_SEEN):
            raise BadSeen(notes)
    if not is_ascending([note for note, number in notes]):
        raise BadSeen(notes)


def _checked_fit(plan, notes, goal, dial):
    """Any numbers that fit, behind all that is refused."""
    _check_seen(plan, notes)
    check_goal(plan, goal)
    if not is_dial(dial):
        raise BadDial(dial)
    numbers = _fit(plan, notes, dial)
    if numbers is None:
        raise NoFit(dial)
    return numbers


def _fit(plan, notes, dial):
    """Any numbers that fit, None if there are none."""
    if dial < _least_beyond(notes):
        return None
    names = sources(plan)
    # Each name gives what one more of it adds to the rows; what is asked of them is taken away piece by piece.
    vectors = []
    for at, name in enumerate(names):
        vectors.append([plan.row(note)[name] % dial for note, number in notes] + unit(at, len(names)))
    left = [asked % dial for asked in _asked(plan, notes)] + [0 for _ in names]
    for column in range(len(notes)):
        leader, vectors = swept(vectors, column, dial)
        if left[column] != 0:
            left = None if leader is None else _taken(left, led_by_gcd(leader, column, dial), column, dial)
        if left is None:
            return None
    return tuple([-number % dial for number in left[len(notes):]])


def _taken(left, leader, column, dial):
    """What is left without as many leaders as make up this column, None if none do."""
    if left[column] % leader[column] != 0:
        return None
    times = left[column] // leader[column]
    return [(high - times * low) % dial for high, low in zip(left, leader)]


def _asked(plan, notes):
    """What own and drawn numbers must come to in the rows of the notes."""
    return [number - plan.row(note).number for note, number in notes]


def _least_beyond(notes):
    """The least integer that is greater than each number seen."""
    return max([int(number) for note, number in notes], default=0) + 1


def _part(plan, notes, goal, dial):
    """The part of the goal by the rows of the notes."""
    return part_and_change(tuple([plan.row(note) for note, number in notes]), goal, dial)[0]


def _value(plan, total, numbers):
    """What a Sum of own and drawn numbers comes to."""
    return total({name: number for name, number in zip(sources(plan), numbers)})
