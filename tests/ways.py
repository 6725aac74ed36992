"""A slow way of its own to what rows tell: by going through all ways to give numbers, or by what must hold."""

import random
from itertools import product
from math import gcd

from dialsums.sums import Sum


def all_names(totals):
    """The names that stand in some of these Sums."""
    return sorted({name for total in totals for name, many in total.parts})


def value(total, numbers, dial):
    """The value of a Sum by these numbers of the names."""
    return (sum(many * numbers[name] for name, many in total.parts) + total.number) % dial


def shown(rows, goals, dial):
    """The set of values that goals can have together, behind each tuple of values that rows can have."""
    names = all_names(rows + goals)
    found = {}
    for way in product(range(dial), repeat=len(names)):
        numbers = dict(zip(names, way))
        by_rows = tuple(value(row, numbers, dial) for row in rows)
        found.setdefault(by_rows, set()).add(tuple(value(goal, numbers, dial) for goal in goals))
    return found


def part(rows, goal, dial):
    """The part, by comparing all ways that are alike."""
    common = dial
    for values in shown(rows, (goal,), dial).values():
        first = min(values)[0]
        for one, in values:
            common = gcd(common, one - first)
    return common


def is_hidden(rows, goals, dial):
    """Whether the goals can have all values together that they can have at all, whatever values the rows show."""
    found = shown(rows, goals, dial)
    everything = set().union(*found.values())
    return all(values == everything for values in found.values())


def is_nothing(integers, dial):
    """Whether a dict has multiples of the dial alone."""
    return all(many % dial == 0 for many in integers.values())


def less(goals, shares, rows, weights):
    """All goals times their shares, less all rows times their weights, at each name."""
    found = {name: 0 for name in all_names(goals + rows)}
    for total, times in list(zip(goals, shares)) + [(row, -weight) for row, weight in zip(rows, weights)]:
        for name, many in total.parts:
            found[name] += times * many
    return found


def weighs(rows, goal, dial, number, weights):
    """Whether dial // number times the goal, less the rows times weights, has multiples of the dial."""
    return is_nothing(less((goal,), (dial // number,), rows, weights), dial)


def changes(rows, goal, dial, number, change):
    """Whether the change keeps the values of rows, and the goal's becomes so much more."""
    numbers = {name: 0 for name in all_names(rows + (goal,))}
    changed = {**numbers, **dict(change)}
    kept = all(value(row, numbers, dial) == value(row, changed, dial) for row in rows)
    return kept and (value(goal, changed, dial) - value(goal, numbers, dial) - number) % dial == 0


def leaks(rows, goals, dial, shares, weights):
    """Whether the goals times shares are no multiples of the dial, but come to the rows times weights."""
    shared = less(goals, shares, (), ())
    return not is_nothing(shared, dial) and is_nothing(less(goals, shares, rows, weights), dial)


def some_sum(source, names, most, lacking=3):
    """Any Sum of some of these names, one of so many lacking, with integers at names from -most to most."""
    parts = []
    for name in sorted(names):
        many = source.randint(-most, most)
        if many != 0 and source.randrange(lacking) != 0:
            parts.append((name, many))
    return Sum(tuple(parts), source.choice((0, 0, 1, -7, 10 ** 20)))


def cases(seed, many, names, most, rows=3, goals=1):
    """So many times (rows, goals), the same ones for the same seed."""
    source = random.Random(seed)
    for _ in range(many):
        few = names[:source.randint(1, len(names))]
        top = source.choice(most)
        yield (
            tuple(some_sum(source, few, top) for _ in range(source.randint(0, rows))),
            tuple(some_sum(source, few, top) for _ in range(source.randint(1, goals))),
        )
