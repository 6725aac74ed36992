"""Rooms: a dial that is used live, deed by deed."""

from dialsums.basics import is_between, is_dial, is_name, is_written_integer
from dialsums.errors import BadDial, BadJournal, BadLine, BadNote, BadNumber, BadPeople, BadSum, DialError, Full
from dialsums.errors import NoNote, NoPerson, NoTrial, NothingToRedo, NothingToUndo
from dialsums.plans import Plan, are_people, is_row, is_total, put_in
from dialsums.sums import Sum, read_sum
from dialsums.telling import is_goal_of, part_and_change


class Moment:
    """How a room stands behind some deeds. It never changes, so rooms can share it."""

    def __init__(self, earlier, lines, course, given, worths):
        # The moment ahead of the last deed, and the lines of all deeds.
        self.earlier = earlier
        self.lines = lines
        # The plan of these deeds, what was owned and drawn, and the value of each note by its name.
        self.course = course
        self.given = given
        self.worths = worths


class Trial:
    """A block of a room: behind it the room stands as it stood ahead, unless it is to be kept."""

    def __init__(self, place):
        self.place = place
        # None until keep is called in this block: where it is left only that may be asked.
        self.keeping = None
        self.outer = None
        self.moment = None
        self.undone = ()

    def __enter__(self):
        place = self.place
        self.outer = place.trials
        self.moment = place.moment
        self.undone = place.undone
        place.trials = self
        return place

    def __exit__(self, kind, value, trace):
        place = self.place
        if kind is not None or self.keeping is None:
            place.moment = self.moment
            place.undone = self.undone
        place.trials = self.outer


class Room:
    """A dial with people around it, and the deeds that are done there."""

    def __init__(self, dial, people):
        if not is_dial(dial):
            raise BadDial(dial)
        if not are_people(people):
            raise BadPeople(people)
        self._dial = dial
        self.moment = Moment(None, (), Plan("people " + " ".join(people)), (), {})
        # The moments that undo took back, the last one of them at the end.
        self.undone = ()
        # The innermost block that is on.
        self.trials = None

    @property
    def dial(self):
        """The dial."""
        return self._dial

    @property
    def plan(self):
        """The plan of the people and all deeds that stand."""
        return self.moment.course

    @property
    def numbers(self):
        """What was owned and drawn, in sequence."""
        return self.moment.given

    @property
    def done(self):
        """How many deeds stand."""
        return len(self.moment.lines)

    @property
    def journal(self):
        """The lines of all deeds that stand."""
        return self.moment.lines

    def own(self, person, note, number):
        """This person has a number of their own."""
        self._take_number("own", person, note, number)

    def draw(self, person, note, number):
        """This person draws a number."""
        self._take_number("draw", person, note, number)

    def reckon(self, person, note, total):
        """This person reckons a sum of notes: its value."""
        self._check_new(person, note)
        if not self._can_reckon(person, total):
            raise BadSum(total)
        worth = self._value(total)
        line = f"sum {person} {note} = {total.text}"
        self._do(line, line, (), {note: worth})
        return worth

    def hand(self, person, other, note):
        """This person shows a note to another one."""
        self._check_person(person)
        if other == person:
            raise NoPerson(other)
        self._check_person(other)
        self._check_had(person, note)
        line = f"hand {person} {other} {note}"
        self._do(line, line, (), {})

    def call(self, person, note):
        """This person calls a note out."""
        self._show("call", person, note)

    def burn(self, person, note):
        """This person has the note no more."""
        self._show("burn", person, note)

    def seen(self, people, *, by="saw"):
        """(note, value) of what these people saw, or have."""
        plan = self.plan
        # The plan refuses what is no people of it, and by.
        plan.rows(people, by=by)
        noted = [plan.saw(person) if by == "saw" else plan.has(person) for person in people]
        return tuple([(note, self[note]) for note in plan.notes if any([note in notes for notes in noted])])

    def part(self, people, goal):
        """The part of a sum of notes by all that these people saw."""
        rows = self.plan.rows(people)
        if not is_goal_of(self.plan.notes, goal):
            raise BadSum(goal)
        return part_and_change(rows, put_in(goal, self._rows(goal)), self._dial)[0]

    def undo(self):
        """Takes the last deed back that stands."""
        if self.moment.earlier is None:
            raise NothingToUndo(None)
        self.undone = self.undone + (self.moment,)
        self.moment = self.moment.earlier

    def redo(self):
        """Does again what undo took back last."""
        if len(self.undone) == 0:
            raise NothingToRedo(None)
        self.moment = self.undone[-1]
        self.undone = self.undone[:-1]

    def trial(self):
        """A block behind which the room is as it was, unless it is kept."""
        return Trial(self)

    def keep(self):
        """Lets stand what the innermost block does."""
        inner = self.trials
        if inner is None:
            raise NoTrial(None)
        inner.keeping = True

    def tried(self, look, *, keep=False):
        """What look returns of the room; what it does stands if keep is True."""
        with self.trial() as held:
            answer = look(held)
            if keep is True:
                held.keep()
        return answer

    def copy(self):
        """An independent room, alike in all things, outside of all blocks."""
        made = Room(self._dial, self.plan.people)
        made.moment = self.moment
        made.undone = self.undone
        return made

    def take(self, line):
        """Does what a line of a journal tells, and returns what comes of it."""
        deed = read_deed(line)
        if deed is None:
            raise BadLine(line)
        kind, told = deed
        if kind == "own":
            return self.own(*told)
        if kind == "draw":
            return self.draw(*told)
        if kind == "sum":
            return self.reckon(*told)
        if kind == "hand":
            return self.hand(*told)
        if kind == "call":
            return self.call(*told)
        return self.burn(*told)

    def __iadd__(self, other):
        self.take(other)
        return self

    def __getitem__(self, at):
        if at not in self:
            raise NoNote(at)
        return self.moment.worths[at]

    def __iter__(self):
        raise TypeError("a room is not gone over: take its journal, or the notes of its plan")

    def __len__(self):
        return len(self.moment.worths)

    def __contains__(self, x):
        return isinstance(x, str) and x in self.moment.worths

    def __eq__(self, other):
        if not isinstance(other, Room):
            return False
        return self._dial == other._dial and self.plan == other.plan and self.numbers == other.numbers

    def _check_person(self, person):
        """Refuses what is none of the people."""
        if person not in self.plan.people:
            raise NoPerson(person)

    def _check_new(self, person, note):
        """Refuses what is none of the people, and what is no new name of a note."""
        self._check_person(person)
        if not is_name(note) or note in self:
            raise BadNote(note)

    def _check_had(self, person, note):
        """Refuses what is no note that this person has."""
        if note not in self.plan.has(person):
            raise NoNote(note)

    def _take_number(self, kind, person, note, number):
        """This person has a number of this kind, own or draw."""
        self._check_new(person, note)
        if not is_between(number, 0, self._dial - 1):
            raise BadNumber(number)
        line = f"{kind} {person} {note}"
        self._do(line, f"{line} {number}", (number,), {note: number})

    def _show(self, kind, person, note):
        """This person does with a note what this kind of line tells, call or burn."""
        self._check_person(person)
        self._check_had(person, note)
        line = f"{kind} {person} {note}"
        self._do(line, line, (), {})

    def _can_reckon(self, person, total):
        """Whether any value is a Sum that this person can reckon now."""
        if not isinstance(total, Sum) or not is_total(total):
            return False
        had = self.plan.has(person)
        return all([name in had for name in total.names]) and is_row(put_in(total, self._rows(total)))

    def _rows(self, total):
        """The rows of the notes that stand in a Sum, by their names."""
        return {name: self.plan.row(name) for name in total.names}

    def _value(self, total):
        """What a Sum of notes comes to, round the dial."""
        return (sum([many * self[name] for name, many in total.parts]) + total.number) % self._dial

    def _do(self, line, entry, numbers, worths):
        """Adds a deed by its line in a plan and that in a journal, with the numbers and the values that it brings."""
        now = self.moment
        try:
            course = now.course + line
        except BadLine:
            # All that makes a line wrong by itself was refused ahead: only the place for it is lacking.
            raise Full(entry) from None
        self.moment = Moment(now, now.lines + (entry,), course, now.given + numbers, {**now.worths, **worths})
        self.undone = ()


def read_room(dial, people, lines):
    """The room in which the deeds of these lines of a journal were done."""
    room = Room(dial, people)
    if not isinstance(lines, tuple):
        raise BadJournal(0)
    for at, line in enumerate(lines):
        try:
            room.take(line)
        except DialError:
            raise BadJournal(at + 1) from None
    return room


def read_deed(line):
    """(kind, what it names) of a line of a journal, None for any value that has none of their forms."""
    words = line.split(" ") if isinstance(line, str) and "\n" not in line else [""]
    if "" in words:
        return None
    kind, told = words[0], words[1:]
    if kind in ("own", "draw") and len(told) == 3 and is_written_integer(told[2]):
        return kind, (told[0], told[1], int(told[2]))
    if kind == "sum" and len(told) > 3 and told[2] == "=":
        total = read_sum(" ".join(told[3:]))
        return None if total is None else (kind, (told[0], told[1], total))
    if kind == "hand" and len(told) == 3 or kind in ("call", "burn") and len(told) == 2:
        return kind, tuple(told)
    return None
