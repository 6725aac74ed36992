"""Plans: lines that tell who owns, draws, reckons, shows and burns notes."""

from dialsums.basics import MOST_PEOPLE, are_unlike_names, are_within, is_ascending, is_between, is_name
from dialsums.errors import BadBy, BadLine, BadPeople, BadPlan, Needed, NoLine, NoNote, NoPerson
from dialsums.sums import Sum, read_sum

MOST_LINES = 20
MOST_NOTES = 12
MOST_OF_A_KIND = 4
GREATEST_MANY = 9
GREATEST_NUMBER = 99
GREATEST_IN_ROWS = 9999


class Plan:
    """The lines of a plan, and what comes of them."""

    def __init__(self, text):
        if not isinstance(text, str):
            raise BadPlan(0)
        lines = text.split("\n")
        standing = _begun(lines[0].split(" "))
        if standing is None:
            raise BadPlan(1)
        for at, line in enumerate(lines[1:]):
            standing = behind(standing, line.split(" "))
            if standing is None:
                raise BadPlan(at + 2)
        self._text = text
        self._lines = lines
        self._people = standing.crowd
        self._owns = _made(lines, "own")
        self._draws = _made(lines, "draw")
        self._worth = standing.worth
        self._shown = standing.shown
        self._held = standing.held

    @property
    def text(self):
        """The text of the plan."""
        return self._text

    @property
    def people(self):
        """The people, in the sequence of the text."""
        return self._people

    @property
    def owns(self):
        """(person, note) of all own numbers, in the sequence of the text."""
        return self._owns

    @property
    def draws(self):
        """(person, note) of all drawn numbers, in the sequence of the text."""
        return self._draws

    @property
    def notes(self):
        """The names of all notes, in the sequence of the text."""
        return tuple(self._worth)

    def row(self, note):
        """What a note comes to by own and drawn numbers."""
        if note not in self:
            raise NoNote(note)
        return self._worth[note]

    def saw(self, person):
        """The notes that this person ever had."""
        if person not in self._people:
            raise NoPerson(person)
        return self._notes_by(self._shown, (person,))

    def has(self, person):
        """The notes that this person has at the end."""
        if person not in self._people:
            raise NoPerson(person)
        return self._notes_by(self._held, (person,))

    def rows(self, people, *, by="saw"):
        """The rows of all notes that one of these people at least saw, or has."""
        if not is_group(people, self._people):
            raise BadPeople(people)
        check_by(by)
        notes = self._notes_by(self._shown if by == "saw" else self._held, people)
        return tuple([self._worth[note] for note in notes])

    def _notes_by(self, marks, people):
        """The notes that are marked for one of these people at least."""
        found = []
        for note in self._worth:
            if any([marks.get((person, note), False) for person in people]):
                found.append(note)
        return tuple(found)

    def without(self, number):
        """The plan without the line with this number."""
        if not self._is_line(number):
            raise NoLine(number)
        try:
            return Plan("\n".join(self._lines[:number - 1] + self._lines[number:]))
        except BadPlan:
            raise Needed(number) from None

    def _is_line(self, number):
        """Whether any value is the number of a line."""
        return is_between(number, 1, len(self._lines))

    def __len__(self):
        return len(self._lines)

    def __getitem__(self, at):
        if not self._is_line(at):
            raise NoLine(at)
        return self._lines[at - 1]

    def __iter__(self):
        raise TypeError("a plan is not gone over: take its text or its notes")

    def __contains__(self, x):
        return isinstance(x, str) and x in self._worth

    def __add__(self, other):
        if not isinstance(other, str) or "\n" in other:
            raise BadLine(other)
        try:
            return Plan(self._text + "\n" + other)
        except BadPlan:
            raise BadLine(other) from None

    def __eq__(self, other):
        return isinstance(other, Plan) and self._text == other._text


class Standing:
    """How things stand behind some lines of a plan."""

    def __init__(self, crowd, kinds, worth, shown, held):
        # The people, the first words of the lines behind theirs, and the row of each note.
        self.crowd = crowd
        self.kinds = kinds
        self.worth = worth
        # Whether a person ever had a note, and has it now, by (person, note).
        self.shown = shown
        self.held = held


def check_by(by):
    """Refuses what does not tell whether people saw or have notes."""
    if not isinstance(by, str) or by not in ("saw", "has"):
        raise BadBy(by)


def is_group(value, everybody):
    """Whether any value is an ascending tuple of some of these people."""
    if not isinstance(value, tuple):
        return False
    for person in value:
        if person not in everybody:
            return False
    return is_ascending(value)


def are_people(value):
    """Whether any value is a tuple of people that a plan can have."""
    return isinstance(value, tuple) and 1 <= len(value) <= MOST_PEOPLE and are_unlike_names(value)


def _made(lines, kind):
    """(person, note) of all lines of this kind, own or draw."""
    found = []
    for line in lines:
        words = line.split(" ")
        if words[0] == kind:
            found.append((words[1], words[2]))
    return tuple(found)


def _begun(words):
    """How things stand behind a first line of these words, None if it is none."""
    crowd = tuple(words[1:])
    if words[0] != "people" or not are_people(crowd):
        return None
    return Standing(crowd, (), {}, {}, {})


def behind(standing, words):
    """How things stand behind one line more of these words, None if it cannot stand there."""
    deed = _deed(standing, words) if len(standing.kinds) < MOST_LINES else None
    if deed is None:
        return None
    note, row, takers, losers = deed
    worth = dict(standing.worth)
    worth[note] = row
    shown = {pair: standing.shown[pair] for pair in standing.shown}
    held = {pair: standing.held[pair] for pair in standing.held}
    for person in takers:
        shown[person, note] = True
        held[person, note] = True
    for person in losers:
        held[person, note] = False
    return Standing(standing.crowd, standing.kinds + (words[0],), worth, shown, held)


def _deed(standing, words):
    """(note, row, who has the note then, who has it no more) by these words, None if they cannot stand there."""
    if len(words) < 3 or words[1] not in standing.crowd:
        return None
    if words[0] in ("own", "draw", "sum"):
        return _new_note(standing, words)
    return _old_note(standing, words)


def _new_note(standing, words):
    """The deed of a line by which a note comes, None if it cannot stand there."""
    kind, person, note = words[:3]
    if not is_name(note) or note in standing.worth or len(standing.worth) >= MOST_NOTES:
        return None
    if kind == "sum":
        row = _reckoned(standing, person, words[3:])
    else:
        row = _number(standing, kind, note, words[3:])
    return None if row is None else (note, row, (person,), ())


def _number(standing, kind, note, rest):
    """The row of an own or drawn number, None if its line cannot stand there."""
    if len(rest) > 0 or standing.kinds.count(kind) >= MOST_OF_A_KIND:
        return None
    return Sum(((note, 1),))


def _reckoned(standing, person, rest):
    """The row of what this person reckons by the words behind the note, None if they cannot stand there."""
    if len(rest) < 2 or rest[0] != "=":
        return None
    total = read_sum(" ".join(rest[1:]))
    if total is None or not is_total(total):
        return None
    for name in total.names:
        if not _holds(standing, person, name):
            return None
    row = put_in(total, standing.worth)
    return row if is_row(row) else None


def is_total(total):
    """Whether the integers of a Sum are within the bounds of what is reckoned in one line."""
    integers = [many for name, many in total.parts]
    return are_within(integers, GREATEST_MANY) and are_within([total.number], GREATEST_NUMBER)


def is_row(row):
    """Whether the integers of a Sum are within the bounds of the row of a note."""
    return are_within([many for name, many in row.parts] + [row.number], GREATEST_IN_ROWS)


def put_in(total, rows):
    """The Sum with the row of each note, by its name, in the note's place."""
    found = Sum((), total.number)
    for name, many in total.parts:
        found = found + rows[name] * many
    return found


def _old_note(standing, words):
    """The deed of a line hand, call or burn, None if it cannot stand there."""
    kind, person, *others, note = words
    if not _holds(standing, person, note):
        return None
    row = standing.worth[note]
    if kind == "hand" and len(others) == 1 and others[0] != person and others[0] in standing.crowd:
        return note, row, (others[0],), ()
    if kind == "call" and len(others) == 0:
        return note, row, standing.crowd, ()
    if kind == "burn" and len(others) == 0:
        return note, row, (), (person,)
    return None


def _holds(standing, person, note):
    """Whether this person has the note now."""
    return standing.held.get((person, note), False)
