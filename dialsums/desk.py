"""A desk: a room that is asked and told by lines."""

from dialsums.basics import is_dial, is_written_integer
from dialsums.errors import BadDesk, BadSay, BadSum
from dialsums.plans import are_people, put_in
from dialsums.rooms import Room, read_deed
from dialsums.spreading import told
from dialsums.sums import read_sum


class Desk:
    """A room, and the lines that are said to it."""

    def __init__(self, text):
        words = text.split(" ") if isinstance(text, str) else []
        figures = [word for word in words if is_written_integer(word)]
        people = tuple([word for word in words if not is_written_integer(word)])
        if len(figures) != 1 or not is_dial(int(figures[0])) or not are_people(people):
            raise BadDesk(text)
        self._room = Room(int(figures[0]), people)

    @property
    def room(self):
        """The room of the desk."""
        return self._room

    def say(self, line):
        """What the desk answers to a line."""
        if read_deed(line) is not None:
            return _answer(self._room.take(line))
        words = line.split(" ") if isinstance(line, str) and "\n" not in line else []
        if words == ["undo"]:
            return _answer(self._room.undo())
        if words == ["redo"]:
            return _answer(self._room.redo())
        if len(words) == 2 and words[0] == "value" and words[1] != "":
            return str(self._room[words[1]])
        question = _read_question(words)
        if question is None:
            raise BadSay(line)
        word, group, total = question
        if word == "part":
            return str(self._room.part(group, total))
        return _where_told(self._room.plan, group, total).text


def _answer(worth):
    """done, or the value that came."""
    return "done" if worth is None else str(worth)


def _read_question(words):
    """(word, group, Sum) of the words of a line part or told, None if they have no such form."""
    if len(words) < 3 or words[0] not in ("part", "told"):
        return None
    group = () if words[1] == "-" else tuple(words[1].split(","))
    total = read_sum(" ".join(words[2:]))
    return None if "" in group or total is None else (words[0], group, total)


def _where_told(plan, group, total):
    """The set of all dials on which the rows of this group tell a Sum of notes."""
    rows = plan.rows(group)
    if not all([name in plan for name in total.names]):
        raise BadSum(total)
    return told(rows, put_in(total, {name: plan.row(name) for name in total.names}))
