"""The cheapest changes of a plan by which wishes hold."""

from math import gcd, lcm

from dialsums.basics import are_unlike_names, factored, is_ascending, is_between, powers, subtuples
from dialsums.dials import Dials
from dialsums.errors import BadOffers, BadPlan, BadWishes
from dialsums.plans import Plan
from dialsums.playing import sources
from dialsums.spreading import hidden, told
from dialsums.telling import are_goals

MOST_OFFERS = 4
MOST_WISHES = 3
GREATEST_PRICE = 9


def cheapest(plan, offers, wishes):
    """("choice", price, choice, reasons) of the first choice by which all wishes hold, or ("none", reasons)."""
    if not _are_offers(offers, plan):
        raise BadOffers(offers)
    if not _are_wishes(wishes):
        raise BadWishes(wishes)
    # All choices are looked at ahead of the answer: one behind it can be refused, too.
    lacks = []
    for choice in _choices(offers):
        changed = _changed(plan, choice)
        if changed is not None:
            lacks.append((choice, [_lack(changed, wish) for wish in wishes]))
    reasons = []
    for choice, dials in lacks:
        wrong = [number for number, dial in enumerate(dials) if dial is not None]
        if len(wrong) == 0:
            return "choice", _price(choice), choice, tuple(reasons)
        reasons.append((choice, wrong[0], dials[wrong[0]]))
    return "none", tuple(reasons)


def _are_offers(value, plan):
    """Whether any value is offers for the plan."""
    if not isinstance(value, tuple) or not 1 <= len(value) <= MOST_OFFERS:
        return False
    for offer in value:
        if not isinstance(offer, tuple) or len(offer) != 3:
            return False
        number, text, price = offer
        if not is_between(number, 1, len(plan)) or not isinstance(text, str):
            return False
        if not is_between(price, 1, GREATEST_PRICE):
            return False
    return is_ascending(value)


def _are_wishes(value):
    """Whether any value is wishes."""
    if not isinstance(value, tuple) or not 1 <= len(value) <= MOST_WISHES:
        return False
    for wish in value:
        if not _is_wish(wish):
            return False
    return True


def _is_wish(value):
    """Whether any value is a wish."""
    if not isinstance(value, tuple) or len(value) != 4:
        return False
    word, group, goals, dials = value
    if not isinstance(word, str) or word not in ("told", "hidden"):
        return False
    if not isinstance(group, tuple) or not are_unlike_names(group) or not is_ascending(group):
        return False
    return are_goals(goals) and isinstance(dials, Dials) and not dials.is_empty


def _choices(offers):
    """All choices, in sequence."""
    found = {}
    for places in subtuples(tuple(range(len(offers)))):
        choice = tuple([offers[place] for place in places])
        numbers = [number for number, text, price in choice]
        if is_ascending(numbers):
            # Offers ascend, so their places stand in the sequence of the tuples.
            figures = "".join([str(place) for place in places])
            found[f"{_price(choice):02d} {len(choice)} {figures}"] = choice
    return [found[key] for key in sorted([str(key) for key in found])]


def _price(choice):
    """The price of a choice."""
    return sum([price for number, text, price in choice])


def _changed(plan, choice):
    """The plan that the choice makes, None if it makes none."""
    texts = {number: text for number, text, price in choice}
    lines = []
    for number in range(1, len(plan) + 1):
        line = texts.get(number, plan[number])
        # Only what is put in the place of a line can be empty: then the line is left out.
        if line != "":
            lines.append(line)
    try:
        return Plan("\n".join(lines))
    except BadPlan:
        return None


def _lack(plan, wish):
    """The least dial of the wish's set on which it does not hold, None if it holds."""
    word, group, goals, dials = wish
    if not _has_names(plan, group, goals):
        return dials.after(1)
    rows = plan.rows(group)
    sets = [told(rows, goal) for goal in goals] if word == "told" else [hidden(rows, goals)]
    found = [_least_beyond(dials, one) for one in sets]
    return min([int(dial) for dial in found if dial is not None], default=None)


def _has_names(plan, group, goals):
    """Whether the plan has all people of the group, and all own and drawn numbers that stand in the goals."""
    if not all([person in plan.people for person in group]):
        return False
    names = sources(plan)
    return all([name in names for goal in goals for name in goal.names])


def _least_beyond(dials, kept):
    """The least dial of one set that is not in the other one, which told or hidden tells; None if there is none."""
    if not kept.is_endless:
        # Few dials are in it, so one that is not will soon come, unless the first set has no more.
        dial = dials.after(1)
        while dial is not None and dial in kept:
            dial = dials.after(dial)
        return dial
    # A dial is in such a set unless it is a multiple of the power of a prime that stands in its whole.
    found = [_least_multiple(dials, powers(prime, many)[-1]) for prime, many in factored(kept.whole)]
    return min([int(dial) for dial in found if dial is not None], default=None)


def _least_multiple(dials, step):
    """The least dial of the set that is a multiple of the step, None if there is none."""
    others = {dial: True for dial in dials.others}
    found = [dial for dial in dials.others if dial % step == 0 and dial in dials]
    for share in dials.shares:
        least = lcm(share, step)
        # The common divisor with whole grows with what is shared by all multiples.
        if gcd(least, dials.whole) == share:
            dial = least
            while dial in others or gcd(dial, dials.whole) != share:
                dial = dial + least
            found.append(dial)
    return min([int(dial) for dial in found], default=None)
