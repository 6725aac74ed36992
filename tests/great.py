"""Plans in which great multiples of hidden numbers are shown, written by figures of nine."""

from dialsums.plans import Plan

# Three primes that come to less than 10 ** 9, and three that come to more.
LOW, HIGH = (983, 991, 997), (1009, 1013, 1019)


def powers(person, name, many):
    """Lines by which a person reckons 9, 81 .. times what is called so: notes with a, b .. behind the name."""
    notes = [name] + [name + letter for letter in "abcd"[:many]]
    return [f"sum {person} {note} = 9 {last}" for last, note in zip(notes, notes[1:])]


def figures(row, many):
    """The text of a Sum that comes to these multiples of these names, by so many powers of nine of each."""
    terms = []
    for name, left in row.items():
        for at in range(many[name], -1, -1):
            number = min(9, left // 9 ** at)
            left -= number * 9 ** at
            if number:
                terms.append((name + "abcd"[at - 1] if at else name, number))
        assert left == 0
    return " + ".join(note if number == 1 else f"{number} {note}" for note, number in sorted(terms))


def needed(rows, names):
    """How many powers of nine of each name are needed to reckon these rows."""
    found = {}
    for name in names:
        longest = max(row.get(name, 0) for row in rows)
        found[name] = min(many for many in range(5) if 9 * sum(9 ** at for at in range(many + 1)) >= longest)
    return found


def shown(rows, draws="rs", more=()):
    """A plan in which ann owns x and draws others, and shows ben rows, {name: how many times, at most 819}."""
    lines = ["people ann ben", "own ann x"] + [f"draw ann {name}" for name in draws]
    many = needed(rows, "x" + draws)
    for name in many:
        lines.extend(powers("ann", name, many[name]))
    for row, note in zip(rows, "uvw"):
        lines.extend([f"sum ann {note} = {figures(row, many)}", f"hand ann ben {note}"])
    return Plan("\n".join(lines + list(more)))


def chained(first, second, third):
    """A plan in which ben knows just so many times x, all three together."""
    return shown(({"x": first, "r": 1}, {"r": second, "s": 1}, {"s": third}))


def to_each(rows, draws=""):
    """A plan in which dan, who owns x and draws others, shows to ann, ben and cy one of these rows each."""
    lines = ["people ann ben cy dan", "own dan x"] + [f"draw dan {name}" for name in draws]
    many = needed(rows, "x" + draws)
    for name in many:
        lines.extend(powers("dan", name, many[name]))
    for row, note, person in zip(rows, "uvw", ("ann", "ben", "cy")):
        lines.extend([f"sum dan {note} = {figures(row, many)}", f"hand dan {person} {note}"])
    return Plan("\n".join(lines))
