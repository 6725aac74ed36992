"""A way of its own to plans: their lines are read by an expression, and played with numbers, without Sums."""

import re

NAME = "[a-z]{1,8}"
TERM = f"(?:(?:[2-9]|[1-9][0-9]+) )?{NAME}"
TOTAL = f"0|-?[1-9][0-9]*|-?{TERM}(?: [+-] {TERM})*(?: [+-] [1-9][0-9]*)?"
FORMS = re.compile(
    f"(?P<new>own|draw) (?P<maker>{NAME}) (?P<made>{NAME})|"
    f"sum (?P<adder>{NAME}) (?P<summed>{NAME}) = (?P<total>{TOTAL})|"
    f"hand (?P<giver>{NAME}) (?P<taker>{NAME}) (?P<handed>{NAME})|"
    f"call (?P<caller>{NAME}) (?P<called>{NAME})|"
    f"burn (?P<burner>{NAME}) (?P<burnt>{NAME})"
)


def terms(text):
    """[(name, many)] of the text of a Sum, the number beside with the name None."""
    signed = "- " + text[1:] if text.startswith("-") else "+ " + text
    found = re.findall(f"([+-]) (?:(?:([0-9]+) )?({NAME})|([0-9]+))", signed)
    return [(name or None, int(sign + (many or number or "1"))) for sign, many, name, number in found]


class Table:
    """Notes as vectors over own and drawn numbers, and who ever had them and has them."""

    def __init__(self, people):
        self.people = people
        self.vectors = {}
        self.kinds = {"own": [], "draw": []}
        self.saw = {person: set() for person in people}
        self.has = {person: set() for person in people}

    def take(self, line):
        """Does the line; whether it could be done."""
        found = FORMS.fullmatch(line)
        if found is None:
            return False
        told = {name: word for name, word in found.groupdict().items() if word is not None}
        if "new" in told:
            return self.make(told["new"], told["maker"], told["made"])
        if "adder" in told:
            return self.add(told["adder"], told["summed"], terms(told["total"]))
        if "giver" in told:
            giver, taker, note = told["giver"], told["taker"], told["handed"]
            return giver != taker and taker in self.people and self.show(giver, [taker], note)
        if "caller" in told:
            return self.show(told["caller"], self.people, told["called"])
        person, note = told["burner"], told["burnt"]
        if person not in self.people or note not in self.has[person]:
            return False
        self.has[person].remove(note)
        return True

    def make(self, kind, person, note):
        if len(self.kinds[kind]) == 4 or not self.is_new(person, note):
            return False
        self.kinds[kind].append((person, note))
        return self.put(person, note, {note: 1})

    def add(self, person, note, found):
        names = [name for name, many in found if name is not None]
        if not self.is_new(person, note) or names != sorted(set(names)):
            return False
        vector = {}
        for name, many in found:
            if abs(many) > (99 if name is None else 9) or (name is not None and name not in self.has[person]):
                return False
            for source, more in ({None: 1} if name is None else self.vectors[name]).items():
                vector[source] = vector.get(source, 0) + many * more
        if any(abs(many) > 9999 for many in vector.values()):
            return False
        return self.put(person, note, vector)

    def is_new(self, person, note):
        return person in self.people and note not in self.vectors and len(self.vectors) < 12

    def put(self, person, note, vector):
        self.vectors[note] = {source: many for source, many in vector.items() if many}
        return self.show(person, [person], note, True)

    def show(self, person, people, note, is_new=False):
        if person not in self.people or not is_new and note not in self.has[person]:
            return False
        for one in people:
            self.saw[one].add(note)
            self.has[one].add(note)
        return True


def read(text):
    """(number, table): the number of the first wrong line of a plan, None if there is none, and how things stand."""
    lines = text.split("\n")
    people = lines[0].split(" ")[1:]
    is_right = re.fullmatch(f"people( {NAME}){{1,4}}", lines[0]) and len(set(people)) == len(people)
    if not is_right:
        return 1, None
    table = Table(people)
    for number, line in enumerate(lines[1:], start=2):
        if number > 21 or not table.take(line):
            return number, None
    return None, table


def play(text, numbers):
    """{note: value} of a right plan by numbers for its lines own and draw, without a dial."""
    left = list(numbers)
    values = {}
    for line in text.split("\n")[1:]:
        words = line.split(" ")
        if words[0] in ("own", "draw"):
            values[words[2]] = left.pop(0)
        if words[0] == "sum":
            found = terms(" ".join(words[4:]))
            values[words[2]] = sum(many * (1 if name is None else values[name]) for name, many in found)
    return values
