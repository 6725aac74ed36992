"""Sums: so many times hidden numbers, and a number beside."""

from dialsums.basics import is_ascending, is_dial, is_figures, is_integer, is_name
from dialsums.errors import BadDial, BadName, BadNumber, BadParts, BadSum, BadText, BadValues


class Sum:
    """So many times the number of each name, and the number beside."""

    def __init__(self, parts=(), number=0):
        if not _are_parts(parts):
            raise BadParts(parts)
        if not is_integer(number):
            raise BadNumber(number)
        self._parts = parts
        self._number = number
        self._counts = dict(parts)

    @property
    def parts(self):
        """The ascending tuple of (name, how many times it stands)."""
        return self._parts

    @property
    def number(self):
        """The number beside."""
        return self._number

    @property
    def names(self):
        """The ascending tuple of the names."""
        return tuple([name for name, many in self._parts])

    @property
    def text(self):
        """The terms and the number, as Sum.of takes them."""
        terms = [(many, _term(name, many)) for name, many in self._parts]
        if self._number != 0 or len(terms) == 0:
            terms.append((self._number, str(abs(self._number))))
        told = ""
        for many, words in terms:
            if told == "":
                told = "-" + words if many < 0 else words
            else:
                told = told + (" - " if many < 0 else " + ") + words
        return told

    @staticmethod
    def of(text):
        """The Sum of which this is the text."""
        terms = _read_terms(text) if isinstance(text, str) else None
        if terms is None:
            raise BadText(text)
        parts = tuple([(name, many) for name, many in terms if name != ""])
        number = sum([many for name, many in terms if name == ""])
        try:
            made = Sum(parts, number)
        except BadParts:
            raise BadText(text) from None
        # What was read may be written otherwise than a Sum writes it, such as 1 x.
        if made.text != text:
            raise BadText(text)
        return made

    def put(self, name, other):
        """This Sum with another one in the place of a name."""
        if not is_name(name):
            raise BadName(name)
        if not isinstance(other, Sum):
            raise BadSum(other)
        rest = Sum(tuple([part for part in self._parts if part[0] != name]), self._number)
        return rest + other * self[name]

    def __getitem__(self, at):
        if not is_name(at):
            raise BadName(at)
        return self._counts.get(at, 0)

    def __iter__(self):
        raise TypeError("a Sum is not gone over: take its names or its parts")

    def __len__(self):
        return len(self._parts)

    def __contains__(self, x):
        return isinstance(x, str) and x in self._counts

    def __call__(self, values):
        if not _are_values(values, self._parts):
            raise BadValues(values)
        total = self._number
        for name, many in self._parts:
            total = total + many * values[name]
        return total

    def __add__(self, other):
        if isinstance(other, Sum):
            return _added(self, other, 1)
        if is_integer(other):
            return Sum(self._parts, self._number + other)
        return NotImplemented

    def __radd__(self, other):
        if is_integer(other):
            return Sum(self._parts, other + self._number)
        return NotImplemented

    def __sub__(self, other):
        if isinstance(other, Sum):
            return _added(self, other, -1)
        if is_integer(other):
            return Sum(self._parts, self._number - other)
        return NotImplemented

    def __rsub__(self, other):
        if is_integer(other):
            return _times(self, -1) + other
        return NotImplemented

    def __neg__(self):
        return _times(self, -1)

    def __mul__(self, other):
        if is_integer(other):
            return _times(self, other)
        return NotImplemented

    def __rmul__(self, other):
        if is_integer(other):
            return _times(self, other)
        return NotImplemented

    def __mod__(self, other):
        if not is_dial(other):
            raise BadDial(other)
        return sum_of_counts({name: many % other for name, many in self._parts}, self._number % other)

    def __eq__(self, other):
        return isinstance(other, Sum) and self._parts == other._parts and self._number == other._number


def read_sum(text):
    """The Sum of which any value is the text, None if it is no such text."""
    try:
        return Sum.of(text)
    except BadText:
        return None


def _are_parts(value):
    """Whether any value is parts of a Sum."""
    if not isinstance(value, tuple):
        return False
    for part in value:
        if not _is_part(part):
            return False
    return is_ascending([part[0] for part in value])


def _is_part(value):
    """Whether any value is a name with how many times it stands."""
    if not isinstance(value, tuple) or len(value) != 2:
        return False
    return is_name(value[0]) and is_integer(value[1]) and value[1] != 0


def _are_values(value, parts):
    """Whether any value is a dict from names to integers that has all names of these parts."""
    if not isinstance(value, dict):
        return False
    for name, number in value.items():
        if not is_name(name) or not is_integer(number):
            return False
    for name, _ in parts:
        if name not in value:
            return False
    return True


def sum_of_counts(counts, number):
    """The Sum of these names, each so many times, perhaps 0 times, and the number."""
    names = sorted([str(name) for name in counts if counts[name] != 0])
    return Sum(tuple([(name, counts[name]) for name in names]), number)


def _added(one, other, times):
    """One Sum and so many times another one."""
    counts = dict(one.parts)
    for name, many in other.parts:
        counts[name] = counts.get(name, 0) + times * many
    return sum_of_counts(counts, one.number + times * other.number)


def _times(one, times):
    """So many times a Sum."""
    return sum_of_counts({name: times * many for name, many in one.parts}, times * one.number)


def _term(name, many):
    """A term without its sign."""
    if abs(many) == 1:
        return name
    return f"{abs(many)} {name}"


def _read_terms(text):
    """(name, many) of each term of a text, "" being the name of numbers; None where one is no term."""
    # With a sign ahead of all terms alike, each sign begins a term.
    signed = "- " + text[1:] if text.startswith("-") else "+ " + text
    terms = []
    words = []
    for word in signed.split(" ") + ["+"]:
        if word in ("+", "-") and len(words) > 0:
            terms.append(_read_term(words))
            words = []
        words.append(word)
    return None if None in terms else terms


def _read_term(words):
    """(name, many) of a sign and the words behind it, None if they are no term."""
    times = -1 if words[0] == "-" else 1
    if len(words) == 2 and is_name(words[1]):
        return (words[1], times)
    if len(words) == 2 and is_figures(words[1]):
        return ("", times * int(words[1]))
    if len(words) == 3 and is_figures(words[1]) and is_name(words[2]):
        return (words[2], times * int(words[1]))
    return None
