"""What the other modules ask of plain values and of divisors."""

GREATEST_DIAL = 10 ** 6


def is_integer(value):
    """Whether any value is an integer (True and False are none)."""
    return isinstance(value, int) and not isinstance(value, bool)


def is_between(value, low, high):
    """Whether any value is an integer from low to high."""
    return is_integer(value) and low <= value <= high


def is_name(value):
    """Whether any value is a name."""
    if not isinstance(value, str) or len(value) > 8:
        return False
    return value.isascii() and value.isalpha() and value.islower()


def is_dial(value):
    """Whether any value is a dial that may be handed in."""
    return is_between(value, 2, GREATEST_DIAL)


def is_figures(word):
    """Whether a word is figures alone."""
    return word.isascii() and word.isdigit()


def is_ascending(members):
    """Whether these integers, or these strings, ascend without duplicates."""
    for low, high in zip(members, members[1:]):
        if low >= high:
            return False
    return True


def powers(prime, many):
    """The powers of a prime from 1 on, the last one with this exponent."""
    found = [1]
    for _ in range(many):
        found.append(found[-1] * prime)
    return found


def factored(number):
    """The primes of an integer from 1 on, ascending, each with its exponent."""
    found = []
    left = number
    prime = 2
    while prime * prime <= left:
        many = 0
        while left % prime == 0:
            left = left // prime
            many += 1
        if many > 0:
            found.append((prime, many))
        # Behind 2 and 3 only odd numbers need a trial.
        prime = prime + 1 + prime % 2
    if left > 1:
        found.append((left, 1))
    return tuple(found)


def joined(factors, others):
    """The factors of the least common multiple of two numbers, of which each comes by its factors."""
    found = dict(factors)
    for prime, many in others:
        if many > found.get(prime, 0):
            found[prime] = many
    return tuple(found.items())


def divisors(factors):
    """All divisors of the number with these factors, in any sequence."""
    found = [1]
    for prime, many in factors:
        steps = powers(prime, many)
        found = [low * step for low in found for step in steps]
    return found


def count_without(primes, upto):
    """How many integers from 1 to upto none of these primes divides."""
    if len(primes) == 0:
        return upto
    rest = primes[1:]
    return count_without(rest, upto) - count_without(rest, upto // primes[0])
