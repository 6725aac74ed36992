"""Random plans in which much is shown to few: what is known by whom hangs on the dial in many ways."""

import random

from dialsums.plans import Plan
from dialsums.sums import Sum

PEOPLE = ("ann", "ben", "cy", "dan")


def shared_plan(source, crowd=4, owns=2, draws=2, sums=5, most=9):
    """A random plan: numbers are owned and drawn, sums of them are reckoned, and shown to some, called, burnt."""
    people = list(PEOPLE[:source.randint(2, crowd)])
    source.shuffle(people)
    lines = ["people " + " ".join(people)]
    had = {person: [] for person in people}
    for kind, names, many in (("own", "xyuv", owns), ("draw", "rstw", draws)):
        for note in names[:source.randint(1 if kind == "own" else 0, many)]:
            person = source.choice(people[:2])
            lines.append(f"{kind} {person} {note}")
            had[person].append(note)
    for note in "abcdefg"[:source.randint(1, sums)]:
        person = source.choice([one for one in people if had[one]])
        total = some_total(source, had[person], most)
        lines.append(f"sum {person} {note} = {total.text}")
        had[person].append(note)
        lines.extend(shown(source, people, had, person, note))
    return Plan("\n".join(lines[:21]))


def some_total(source, names, most):
    """A random Sum of some of these notes."""
    few = sorted(source.sample(names, min(len(names), source.randint(1, 3))))
    parts = [(name, source.choice((1, 1, 2, 3, -1, source.randint(-most, most)))) for name in few]
    return Sum(tuple(part for part in parts if part[1]), source.choice((0, 0, 0, 5, -99)))


def shown(source, people, had, person, note):
    """Lines by which a note is shown, called or burnt."""
    how = source.randrange(6)
    if how == 0:
        for one in people:
            had[one] = sorted(set(had[one]) | {note})
        return [f"call {person} {note}"]
    if how < 5:
        other = source.choice([one for one in people if one != person])
        had[other] = sorted(set(had[other]) | {note})
        burns = [f"burn {person} {note}"] if how == 4 else []
        if burns:
            had[person].remove(note)
        return [f"hand {person} {other} {note}"] + burns
    return []


def plans(seed, many, **named):
    """So many random plans, the same ones for the same seed."""
    source = random.Random(seed)
    return [shared_plan(source, **named) for _ in range(many)]


def some_goal(source, names, most=6, number=True):
    """A random Sum of some of these names."""
    parts = [(name, source.randint(-most, most)) for name in sorted(names) if source.randrange(3)]
    beside = source.choice((0, 0, 7, -10 ** 9)) if number else 0
    return Sum(tuple(part for part in parts if part[1]), beside)


def other_names(names):
    """Others for all these names, each one for one."""
    return {name: name[::-1] + "q" for name in names}


def renamed(total, names):
    """A Sum by other names."""
    return Sum(tuple(sorted((names[name], many) for name, many in total.parts)), total.number)


def renamed_text(text, names):
    """The text of a plan or of rounds by other names, Sums in it written anew."""
    lines = []
    for line in text.split("\n"):
        words = line.split(" ")
        end = []
        if words[0] == "sum":
            end = ["=", renamed(Sum.of(" ".join(words[4:])), names).text]
            words = words[:3]
        lines.append(" ".join(words[:1] + [names[word] for word in words[1:]] + end))
    return "\n".join(lines)


def renamed_group(group, names):
    """A group by other names, sorted anew."""
    return tuple(sorted(names[person] for person in group))
