"""Plans that are played: what notes come to by given numbers."""

from dialsums.basics import are_numbers, is_dial
from dialsums.errors import BadDial, BadNumbers


def played(plan, dial, numbers):
    """(note, value) of all notes, in the sequence of the text."""
    values = _values(plan, dial, numbers)
    return tuple([(note, _value(plan.row(note), values, dial)) for note in plan.notes])


def seen(plan, people, dial, numbers, *, by="saw"):
    """The values of the rows of all notes that one of these people at least saw, or has."""
    # The people are refused ahead of all others, what is not told by behind them.
    plan.rows(people)
    values = _values(plan, dial, numbers)
    return tuple([_value(row, values, dial) for row in plan.rows(people, by=by)])


def sources(plan):
    """The names of own and drawn numbers, in the sequence of the text."""
    marks = {note: True for person, note in plan.owns + plan.draws}
    return tuple([note for note in plan.notes if note in marks])


def _values(plan, dial, numbers):
    """The numbers by the names of what is owned and drawn."""
    names = sources(plan)
    if not is_dial(dial):
        raise BadDial(dial)
    if not are_numbers(numbers, len(names), dial):
        raise BadNumbers(numbers)
    return {name: number for name, number in zip(names, numbers)}


def _value(row, values, dial):
    """What a row comes to, round the dial."""
    return row(values) % dial
