"""Random rounds, their rows written out round by round, and a search of its own over sets of all that is known."""

from itertools import product

from dialsums.errors import BadRounds
from dialsums.plans import Plan
from dialsums.rounds import Rounds
from dialsums.sums import Sum
from tests import shared


def some_rounds(source):
    """Random rounds with one kept note or more."""
    while True:
        plan = ending(source)
        if plan is None:
            continue
        kept = [note for note in plan.notes if any(note in plan.has(person) for person in plan.people)]
        if not 1 <= len(kept) <= 4:
            continue
        lines, had, made = some_round(source, plan)
        following = []
        for note in kept:
            found = [new for new in kept + made if new != note and all(
                (new in had[person]) == (note in plan.has(person)) for person in plan.people)]
            if found and source.randrange(6):
                following.append(f"next {note} {source.choice(found)}")
        if lines:
            try:
                return Rounds("\n".join([plan.text, "round"] + lines + following))
            except BadRounds:
                # A fifth number drawn, or integers beyond the bounds.
                continue


def ending(source):
    """A random plan at the end of which most notes are burnt, None if that takes too many lines."""
    plan = shared.shared_plan(source, crowd=3, owns=2, draws=2, sums=3, most=4)
    for person in plan.people:
        for note in plan.has(person):
            if source.randrange(5) < 3:
                if len(plan) == 21:
                    return None
                plan = plan + f"burn {person} {note}"
    return plan


def some_round(source, plan):
    """(lines, who has what behind them, new notes) of a random round."""
    had = {person: list(plan.has(person)) for person in plan.people}
    lines, made = [], []
    for fresh in "hijklmnopq"[:source.randint(1, 7)]:
        person, how = source.choice(plan.people), source.randrange(8)
        if how < 2:
            lines.append(f"draw {person} {fresh}")
        elif had[person] and how < 5:
            total = shared.some_total(source, sorted(set(had[person])), 3)
            lines.append(f"sum {person} {fresh} = {total.text}")
        elif had[person]:
            note, other = source.choice(had[person]), source.choice(plan.people)
            if how == 7:
                lines.append(f"call {person} {note}")
                for one in plan.people:
                    had[one].append(note)
            elif other != person:
                lines.append(f"hand {person} {other} {note}")
                had[other].append(note)
            continue
        else:
            continue
        had[person].append(fresh)
        made.append(fresh)
    return lines, had, made


def written(rounds, many):
    """[(rows called so far, {kept note: row})] behind the plan and behind so many rounds, by numbers of unlike names."""
    lines = [line.split(" ") for line in rounds.text.split("\n")]
    place = lines.index(["round"])
    heard = [rounds.plan.row(words[2]) for words in lines[:place] if words[0] == "call"]
    state = {note: rounds.plan.row(note) for note in rounds.kept}
    found = [(list(heard), dict(state))]
    for number in range(many):
        rows, later = dict(state), {}
        for words in lines[place + 1:]:
            if words[0] == "draw":
                rows[words[2]] = Sum.of("zyxwvut"[number] + "zz" + words[2])
            elif words[0] == "sum":
                total = Sum.of(" ".join(words[4:]))
                rows[words[2]] = Sum((), total.number)
                for name, times in total.parts:
                    rows[words[2]] += rows[name] * times
            elif words[0] == "call":
                heard.append(rows[words[2]])
            elif words[0] == "next":
                later[words[1]] = rows[words[2]]
        state = {note: later.get(note, state[note]) for note in state}
        found.append((list(heard), dict(state)))
    return found


def seen_rows(rounds, looks):
    """All rows that a visitor heard and saw up to the last look."""
    stages = written(rounds, max(0, len(looks) - 1))
    rows = list(stages[-1][0])
    for (_, state), group in zip(stages, looks):
        rows.extend(state[note] for note in rounds.kept if any(note in rounds.plan.has(person) for person in group))
    return rows


def added(one, other, dial):
    """Two tuples of integers, added round the dial."""
    return tuple((low + high) % dial for low, high in zip(one, other))


def all_sums(vectors, width, dial):
    """All sums of these vectors, each as often as one likes."""
    found = {(0,) * width}
    for vector in vectors:
        vector = tuple(number % dial for number in vector)
        for _ in range(dial):
            found |= {added(one, vector, dial) for one in found}
    return frozenset(found)


class Search:
    """What is known, as sets of all integers, of own numbers and of kept notes, for which the sum is known."""

    def __init__(self, rounds, dial):
        self.rounds, self.dial = rounds, dial
        self.owns = [note for person, note in rounds.plan.owns]
        self.width = len(self.owns) + len(rounds.kept)
        self.every = list(product(range(dial), repeat=self.width))

    def known_of(self, rows, names, heard):
        """All integers with which these rows come, at these names, to one of the sums that are heard."""
        found = []
        for integers in self.every:
            total = tuple(sum(many * row[at] for many, row in zip(integers, rows)) % self.dial for at in range(len(names)))
            if total in heard:
                found.append(integers)
        return frozenset(found)

    def first(self):
        """What is known behind the plan."""
        plan = self.rounds.plan
        names = self.owns + [note for person, note in plan.draws]
        lines = [line.split(" ") for line in plan.text.split("\n")]
        called = [[plan.row(words[2])[name] for name in names] for words in lines if words[0] == "call"]
        rows = [[int(name == own) for name in names] for own in self.owns]
        rows += [[plan.row(note)[name] for name in names] for note in self.rounds.kept]
        return self.known_of(rows, names, all_sums(called, len(names), self.dial))

    def later(self, known):
        """What is known behind a round."""
        rounds = self.rounds
        lines = [line.split(" ") for line in rounds.text.split("\n")]
        place = lines.index(["round"])
        names = list(rounds.kept) + [words[2] for words in lines[place:] if words[0] == "draw"]
        blank = [0] * len(self.owns)
        called = all_sums([blank + [row[name] for name in names] for row in rounds.calls], len(blank + names), self.dial)
        nothing = (0,) * (len(names) - len(rounds.kept))
        heard = {added(one + nothing, other, self.dial) for one in known for other in called}
        rows = [[int(at == place) for place in range(len(blank + names))] for at in range(len(blank))]
        rows += [blank + [rounds.later(note)[name] for name in names] for note in rounds.kept]
        return self.known_of(rows, blank + names, heard)

    def look(self, known, group):
        """What is known behind a look at this group."""
        plan, start = self.rounds.plan, len(self.owns)
        units = []
        for at, note in enumerate(self.rounds.kept):
            if any(note in plan.has(person) for person in group):
                units.append([int(place == start + at) for place in range(self.width)])
        shown = all_sums(units, self.width, self.dial)
        return frozenset(added(one, other, self.dial) for one in known for other in shown)

    def all_known(self, groups, most=400):
        """{what is known: any shortest looks} behind one look or more at these groups, None if there are too many."""
        found, ahead = {}, [(self.first(), ())]
        while ahead:
            fresh = []
            for known, looks in ahead:
                for group in groups:
                    seen = self.look(known, group)
                    if seen not in found:
                        found[seen] = looks + (group,)
                        fresh.append(seen)
            if len(found) > most:
                return None
            ahead = [(self.later(known), found[known]) for known in fresh]
        return found

    def part(self, known, goal):
        """The part of the goal by what is known."""
        integers = [goal[own] for own in self.owns] + [0] * len(self.rounds.kept)
        parts = [part for part in range(1, self.dial + 1) if self.dial % part == 0]
        return max(part for part in parts if tuple(self.dial // part * many % self.dial for many in integers) in known)

    def is_known(self, known, goal, word):
        """Whether the goal is known so."""
        if word == "told":
            return self.part(known, goal) == self.dial
        return self.part(known, goal) > self.part(frozenset([(0,) * self.width]), goal)
