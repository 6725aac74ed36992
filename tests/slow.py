"""A slow way of its own to sets of dials: by lists of whether each dial is in them."""

from math import gcd, lcm


def listed(whole, shares, others, upto):
    """Whether each integer from 0 to upto is a dial of the set."""
    found = [False, False]
    for dial in range(2, upto + 1):
        found.append((gcd(dial, whole) in shares) != (dial in others))
    return found


def reach(*wholes):
    """How far behind all others lists go, so that least finds what is right for these wholes."""
    period = lcm(*wholes)
    return period * period


def least(marks, bound, top):
    """(whole, shares, others) with the least whole, up to top, for the dials that are marked; no other beyond bound."""
    for whole in range(1, top + 1):
        shares = tried(marks, bound, whole, lcm(whole, top))
        if shares is not None:
            others = [dial for dial in range(2, bound + 1) if marks[dial] != (gcd(dial, whole) in shares)]
            return whole, shares, tuple(others)
    return None


def tried(marks, bound, whole, period):
    """The shares by which the whole tells all great dials, None if it does not."""
    kinds = {}
    for dial in range(bound + 1, bound + period + 1):
        if kinds.setdefault(gcd(dial, whole), marks[dial]) != marks[dial]:
            return None
    return tuple(sorted(share for share in kinds if kinds[share]))


def divisors(whole):
    """All divisors, one by one."""
    return [share for share in range(1, whole + 1) if whole % share == 0]


def choices(members):
    """All ascending tuples of some of these."""
    members = list(members)
    for code in range(2 ** len(members)):
        yield tuple(member for at, member in enumerate(members) if code >> at & 1)
