"""Rounds: a plan, and lines that are done again and again behind it, with numbers dealt anew.

What a visitor knows is told by a knowledge, with columns for own numbers and for kept notes: its rows make all sums of
these whose values he can reckon.
"""

from dialsums.basics import groups_of, is_ascending, is_between, is_dial, is_few
from dialsums.errors import BadDial, BadFew, BadLooks, BadPlan, BadRounds, BadSum, BadWord, NoNote, TooMany
from dialsums.plans import Plan, Standing, behind, is_group
from dialsums.sums import Sum
from dialsums.telling import ended, integers_at, is_goal_of, knowledge_of, less, part_by, unit

MOST_KEPT = 4
MOST_LINES = 12
MOST_LOOKS = 300
MOST_KNOWLEDGES = 300


class Rounds:
    """The lines of a plan, and those of each round behind it."""

    def __init__(self, text):
        if not isinstance(text, str):
            raise BadRounds(0)
        lines = text.split("\n")
        place = lines.index("round") if "round" in lines else len(lines)
        self._text = text
        self._plan = _plan_ahead(lines[:place])
        self._kept = _kept_notes(self._plan)
        if len(self._kept) > MOST_KEPT:
            raise BadRounds(place + 1)
        if place + 1 >= len(lines):
            raise BadRounds(len(lines) + 1)
        # What is drawn in a round, by its names, is the same in no two rounds.
        self._calls, self.dealt, self._later = _read_round(self._plan, self._kept, lines[place + 1:], place + 2)

    @property
    def text(self):
        """The text of the rounds."""
        return self._text

    @property
    def plan(self):
        """The plan of the lines ahead."""
        return self._plan

    @property
    def kept(self):
        """The kept notes, in the sequence of the plan."""
        return self._kept

    @property
    def calls(self):
        """The rows of the notes that are called in a round, line by line."""
        return self._calls

    def later(self, note):
        """The row of what is called so in the next round."""
        if note not in self._kept:
            raise NoNote(note)
        return self._later.get(note, Sum(((note, 1),)))

    def __eq__(self, other):
        return isinstance(other, Rounds) and self._text == other._text


def looked(rounds, looks, goal, dial):
    """The part of the goal by what a visitor heard and saw up to the last one of these looks."""
    if not _are_looks(rounds, looks):
        raise BadLooks(looks)
    _check_goal_of_owns(rounds, goal)
    _check_dial(dial)
    return part_by(_behind_looks(rounds, looks, dial), _integers(rounds, goal), dial)


def ever(rounds, goal, few, dial, word="told"):
    """("comes", looks) if a visitor knows the goal behind these looks, ("never", closed) if he never does."""
    _check_ever(rounds, goal, few, dial, word)
    found = _all_knowledges(rounds, few, dial)
    if _is_known(rounds, goal, _behind_plan(rounds, dial), dial, word):
        return "comes", ()
    for knowledge, looks in found.items():
        if _is_known(rounds, goal, knowledge, dial, word):
            return "comes", looks
    by_figures = {_figures(knowledge): knowledge for knowledge in found}
    return "never", tuple([by_figures[figures] for figures in sorted([str(one) for one in by_figures])])


def shows_ever(rounds, goal, few, dial, value, word="told"):
    """Whether any value is such a result as is told for ever, with any looks behind which it is so."""
    _check_ever(rounds, goal, few, dial, word)
    if not isinstance(value, tuple) or len(value) != 2:
        return False
    answer, shown = value
    if answer == "comes":
        if not _are_looks(rounds, shown) or not all([len(group) <= few for group in shown]):
            return False
        return _is_known(rounds, goal, _behind_looks(rounds, shown, dial), dial, word)
    if answer != "never" or not _are_knowledges(rounds, shown, dial):
        return False
    if any([_is_known(rounds, goal, knowledge, dial, word) for knowledge in shown]):
        return False
    return _is_closed(rounds, few, dial, shown)


def _plan_ahead(lines):
    """The plan of the lines ahead of the line round."""
    try:
        return Plan("\n".join(lines))
    except BadPlan as wrong:
        raise BadRounds(wrong.value) from None


def _kept_notes(plan):
    """The notes that somebody has at the end of the plan."""
    held = {note: True for person in plan.people for note in plan.has(person)}
    return tuple([note for note in plan.notes if note in held])


def _read_round(plan, kept, lines, first):
    """(calls, names of what is drawn, rows of what comes later) of the lines of a round; the first has this number."""
    # Kept notes are what a round is reckoned from, whatever they came to before.
    held = {(person, note): True for person in plan.people for note in plan.has(person)}
    standing = Standing(plan.people, (), {note: Sum(((note, 1),)) for note in kept}, {}, held)
    calls = []
    dealt = []
    later = {}
    for number, line in enumerate(lines, start=first):
        words = line.split(" ")
        if words[0] == "next" and _is_next(plan, kept, standing, words) and words[1] not in later:
            later[words[1]] = standing.worth[words[2]]
            continue
        standing = _behind_in_round(plan, kept, standing, words) if len(later) == 0 else None
        if standing is None:
            raise BadRounds(number)
        if words[0] == "call":
            calls.append(standing.worth[words[2]])
        if words[0] == "draw":
            dealt.append(words[2])
    return tuple(calls), tuple(dealt), later


def _is_next(plan, kept, standing, words):
    """Whether a line next of these words can stand behind a round."""
    if len(words) != 3 or len(standing.kinds) == 0 or words[1] not in kept:
        return False
    for person in plan.people:
        if standing.held.get((person, words[2]), False) != (words[1] in plan.has(person)):
            return False
    return True


def _behind_in_round(plan, kept, standing, words):
    """How things stand behind one line more of a round, None if it cannot stand there."""
    if words[0] not in ("draw", "sum", "hand", "call", "burn") or len(standing.kinds) >= MOST_LINES:
        return None
    if words[0] in ("draw", "sum") and len(words) > 2 and words[2] in plan:
        return None
    if words[0] == "burn" and words[-1] in kept:
        return None
    return behind(standing, words)


def _check_ever(rounds, goal, few, dial, word):
    """Refuses arguments of ever."""
    _check_goal_of_owns(rounds, goal)
    if not is_few(few):
        raise BadFew(few)
    _check_dial(dial)
    if not isinstance(word, str) or word not in ("told", "some"):
        raise BadWord(word)


def _check_goal_of_owns(rounds, goal):
    """Refuses what is no Sum of own numbers that can be a goal."""
    if not is_goal_of(_owns(rounds), goal):
        raise BadSum(goal)


def _check_dial(dial):
    """Refuses what is no dial."""
    if not is_dial(dial):
        raise BadDial(dial)


def _are_looks(rounds, value):
    """Whether any value is looks."""
    if not isinstance(value, tuple) or len(value) > MOST_LOOKS:
        return False
    for group in value:
        if not is_group(group, rounds.plan.people):
            return False
    return True


def _owns(rounds):
    """The names of the own numbers, in the sequence of the plan."""
    return [note for person, note in rounds.plan.owns]


def _length(rounds):
    """How many columns a knowledge has."""
    return len(rounds.plan.owns) + len(rounds.kept)


def _integers(rounds, goal):
    """The goal's integers in the columns of a knowledge."""
    return integers_at(goal, _owns(rounds)) + [0 for _ in rounds.kept]


def _is_known(rounds, goal, knowledge, dial, word):
    """Whether the goal is known so by this knowledge."""
    integers = _integers(rounds, goal)
    part = part_by(knowledge, integers, dial)
    if word == "told":
        return part == dial
    return part > part_by(knowledge_of([], _length(rounds), dial), integers, dial)


def _behind_plan(rounds, dial):
    """The knowledge of what the plan calls."""
    plan = rounds.plan
    owns, draws = _owns(rounds), [note for person, note in plan.draws]
    lines = [plan[number + 1].split(" ") for number in range(len(plan))]
    calls = [plan.row(words[2]) for words in lines if words[0] == "call"]
    vectors = [_minus(integers_at(row, draws)) + integers_at(row, owns) + [0 for _ in rounds.kept] for row in calls]
    for at, note in enumerate(rounds.kept):
        row = plan.row(note)
        vectors.append(integers_at(row, draws) + _minus(integers_at(row, owns)) + unit(at, len(rounds.kept)))
    return _knowledge_without(vectors, len(draws), _length(rounds), dial)


def _behind_round(rounds, knowledge, dial):
    """The knowledge behind a round, if just this one was there ahead of it."""
    kept, many, length = rounds.kept, len(rounds.plan.owns), _length(rounds)
    names = kept + rounds.dealt
    # What is told later is compared with what was told and is called: own numbers stay, all other ones must vanish.
    vectors = [integers_at(row, names) + [0 for _ in range(length)] for row in rounds.calls]
    for row in knowledge:
        vectors.append(_minus(row[many:]) + [0 for _ in rounds.dealt] + list(row[:many]) + [0 for _ in kept])
    for at, note in enumerate(kept):
        vectors.append(integers_at(rounds.later(note), names) + unit(many + at, length))
    return _knowledge_without(vectors, len(names), length, dial)


def _behind_look(rounds, knowledge, group, dial):
    """The knowledge behind a look at what this group has when the next round begins."""
    vectors = [list(row) for row in knowledge]
    for at, note in enumerate(rounds.kept):
        if any([note in rounds.plan.has(person) for person in group]):
            vectors.append(unit(len(rounds.plan.owns) + at, _length(rounds)))
    return _knowledge_without(vectors, 0, _length(rounds), dial)


def _knowledge_without(vectors, skipped, length, dial):
    """The knowledge of all sums of these vectors that have 0 in the columns skipped, by the other ones."""
    left = [[number % dial for number in vector] for vector in vectors]
    return knowledge_of(ended(left, skipped, dial), length, dial)


def _minus(integers):
    """The integers with the other signs."""
    return [-number for number in integers]


def _behind_looks(rounds, looks, dial):
    """The knowledge behind these looks, the first one behind the plan."""
    knowledge = _behind_plan(rounds, dial)
    for at, group in enumerate(looks):
        if at > 0:
            knowledge = _behind_round(rounds, knowledge, dial)
        knowledge = _behind_look(rounds, knowledge, group, dial)
    return knowledge


def _all_knowledges(rounds, few, dial):
    """All knowledges behind one look or more at so few people, each with any shortest looks, shorter ones first."""
    groups = groups_of(rounds.plan.people, few)
    found = {}
    ahead = [(_behind_plan(rounds, dial), ())]
    while len(ahead) > 0:
        fresh = []
        for earlier, looks in ahead:
            for group in groups:
                knowledge = _behind_look(rounds, earlier, group, dial)
                if knowledge not in found:
                    found[knowledge] = looks + (group,)
                    fresh.append(knowledge)
            if len(found) > MOST_KNOWLEDGES:
                raise TooMany(MOST_KNOWLEDGES)
        ahead = [(_behind_round(rounds, knowledge, dial), found[knowledge]) for knowledge in fresh]
    return found


def _figures(knowledge):
    """A string for each knowledge; these stand in the sequence of the knowledges."""
    return " ".join([f"{number:07d}" for row in knowledge for number in row])


def _are_knowledges(rounds, value, dial):
    """Whether any value is an ascending tuple of knowledges."""
    if not isinstance(value, tuple):
        return False
    for one in value:
        if not _is_knowledge(one, _length(rounds), dial):
            return False
    return is_ascending(value)


def _is_knowledge(value, length, dial):
    """Whether any value is a knowledge with so many columns."""
    if not isinstance(value, tuple) or len(value) != length:
        return False
    for row in value:
        if not isinstance(row, tuple) or len(row) != length:
            return False
    for at, row in enumerate(value):
        if not is_between(row[at], 1, dial):
            return False
    for at, row in enumerate(value):
        for column, number in enumerate(row):
            high = 0 if column < at else value[column][column] - 1
            if column != at and not is_between(number, 0, high):
                return False
    return all([_is_made(value, [dial * one for one in unit(at, length)]) for at in range(length)])


def _is_made(rows, vector):
    """Whether the vector is a sum of the rows times integers."""
    left = vector
    for column, row in enumerate(rows):
        if left[column] % row[column] != 0:
            return False
        left = less(left, row, left[column] // row[column])
    return True


def _is_closed(rounds, few, dial, knowledges):
    """Whether no look at so few people leads out of these knowledges."""
    marks = {knowledge: True for knowledge in knowledges}
    ahead = [_behind_plan(rounds, dial)] + [_behind_round(rounds, knowledge, dial) for knowledge in knowledges]
    for earlier in ahead:
        for group in groups_of(rounds.plan.people, few):
            if _behind_look(rounds, earlier, group, dial) not in marks:
                return False
    return True
