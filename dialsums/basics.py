"""What the other modules ask of plain values and of divisors."""

from math import gcd

GREATEST_DIAL = 10 ** 6
GREATEST_PRIME = 10 ** 9
MOST_PEOPLE = 4
# Of primes beyond this one, no two come to a product within 10 ** 9.
GREATEST_TRIAL = 31623


def is_integer(value):
    """Whether any value is an integer (True and False are none)."""
    return isinstance(value, int) and not isinstance(value, bool)


def is_between(value, low, high):
    """Whether any value is an integer from low to high."""
    return is_integer(value) and low <= value <= high


def is_name(value):
    """Whether any value is a name."""
    if not isinstance(value, str) or len(value) > 8:
        return False
    return value.isascii() and value.isalpha() and value.islower()


def is_dial(value):
    """Whether any value is a dial that may be handed in."""
    return is_between(value, 2, GREATEST_DIAL)


def are_numbers(value, length, dial):
    """Whether any value is a tuple of so many integers from 0 to dial - 1."""
    if not isinstance(value, tuple) or len(value) != length:
        return False
    for number in value:
        if not is_between(number, 0, dial - 1):
            return False
    return True


def is_figures(word):
    """Whether a word is figures alone."""
    return word.isascii() and word.isdigit()


def is_written_integer(word):
    """Whether a word is an integer as Python writes it."""
    figures = word[1:] if word.startswith("-") else word
    return is_figures(figures) and str(int(word)) == word


def are_unlike_names(words):
    """Whether these values are names, none of them twice."""
    for at, word in enumerate(words):
        if not is_name(word) or word in words[:at]:
            return False
    return True


def is_few(value):
    """Whether any value is such a number of people as can be told to be few."""
    return is_between(value, 0, MOST_PEOPLE)


def groups_of(people, most):
    """All groups of at most so many of these people, ascending."""
    everybody = tuple(sorted([str(person) for person in people]))
    return [group for group in subtuples(everybody) if len(group) <= most]


def subtuples(members):
    """All tuples of some of these members in their sequence; if the members ascend, the tuples do."""
    found = [()]
    for at, member in enumerate(members):
        found.extend([(member,) + rest for rest in subtuples(members[at + 1:])])
    return found


def is_ascending(members):
    """Whether these integers, these strings, or these tuples of such ascend without duplicates."""
    for low, high in zip(members, members[1:]):
        if low >= high:
            return False
    return True


def powers(prime, many):
    """The powers of a prime from 1 on, the last one with this exponent."""
    found = [1]
    for _ in range(many):
        found.append(found[-1] * prime)
    return found


def divided(number, most):
    """(factors, left): primes up to most of an integer from 1 on, ascending, with their exponents, and what is left.

    What is left is 1, a prime, or has no prime up to most.
    """
    found = []
    left = number
    prime = 2
    while prime <= most and prime * prime <= left:
        many = 0
        while left % prime == 0:
            left = left // prime
            many = many + 1
        if many > 0:
            found.append((prime, many))
        # Behind 2 and 3 only odd numbers need a trial.
        prime = prime + 1 + prime % 2
    return found, left


def factored(number):
    """The primes of an integer from 1 on, ascending, each with its exponent."""
    found, left = divided(number, number)
    last = [(left, 1)] if left > 1 else []
    return tuple(found + last)


def joined(factors, others):
    """The factors of the least common multiple of two numbers, of which each comes by its factors."""
    found = dict(factors)
    for prime, many in others:
        if many > found.get(prime, 0):
            found[prime] = many
    return tuple(found.items())


def divisors(factors):
    """All divisors of the number with these factors, in any sequence."""
    found = [1]
    for prime, many in factors:
        steps = powers(prime, many)
        found = [low * step for low in found for step in steps]
    return found


def count_without(primes, upto):
    """How many integers from 1 to upto none of these primes divides."""
    if len(primes) == 0:
        return upto
    rest = primes[1:]
    return count_without(rest, upto) - count_without(rest, upto // primes[0])


def are_within(integers, most):
    """Whether none of these integers is beyond -most to most."""
    for one in integers:
        if abs(one) > most:
            return False
    return True


def times_to_gcd(number, dial):
    """How many times a number comes to its greatest common divisor with the dial, round it."""
    one, other = number, dial
    times, more = 1, 0
    while other != 0:
        whole = one // other
        one, other = other, one - whole * other
        times, more = more, times - whole * more
    return times % dial


def coprime_base(numbers):
    """Integers from 2 on without common divisors, of whose powers each of these numbers from 1 on is a product."""
    found = []
    left = [number for number in numbers]
    while len(left) > 0:
        number = left.pop()
        met = [base for base in found if gcd(base, number) > 1]
        if len(met) > 0:
            # The product of what is left to do and what is found becomes less, so this comes to an end.
            shared = gcd(met[0], number)
            found.remove(met[0])
            left.extend([met[0] // shared, number // shared, shared])
        elif number > 1:
            found.append(number)
    return found


def exponent(number, base):
    """How often an integer from 1 on can be divided by this base."""
    many = 0
    left = number
    while left % base == 0:
        left = left // base
        many = many + 1
    return many


def root(number, many, low, high):
    """The integer from low to high of which the number is this power, None if there is none."""
    while low < high:
        middle = (low + high) // 2
        if powers(middle, many)[-1] < number:
            low = middle + 1
        else:
            high = middle
    return low if powers(low, many)[-1] == number else None


def factored_within(number):
    """The primes of an integer from 1 on, each with its exponent, None if one or two of them come to over 10 ** 9."""
    found, left = divided(number, GREATEST_TRIAL)
    last = _power_of_prime(left)
    return None if last is None else tuple(found + last)


def _power_of_prime(left):
    """[(prime, exponent)] of what trial division has left, [] of 1, None if it is no power of a prime up to 10 ** 9."""
    if left == 1:
        return []
    # What is left can be any power of one prime, which has more than 14 binary figures: two would be too great.
    for many in range(1, left.bit_length() // 14 + 2):
        prime = root(left, many, 1, GREATEST_PRIME)
        if prime is not None:
            return [(prime, many)]
    return None
