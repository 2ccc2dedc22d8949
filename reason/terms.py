"""Names, constants, variables and facts, and their order."""

LONGEST = 8
MOST_PLACES = 4
WORDS = ("not", "if", "under", "unlike", "sum", "least", "count")


def is_whole(thing):
    """Whether anything is a whole number: True and False are none."""
    return isinstance(thing, int) and not isinstance(thing, bool)


def is_small(sign):
    return "a" <= sign <= "z"


def is_big(sign):
    return "A" <= sign <= "Z"


def is_figure(sign):
    return "0" <= sign <= "9"


def is_short_text(thing):
    return isinstance(thing, str) and 1 <= len(thing) <= LONGEST


def is_name(thing):
    """Whether anything is a name."""
    if not is_short_text(thing) or thing in WORDS:
        return False
    return all([is_small(sign) for sign in thing])


def is_constant(thing):
    """Whether anything is a constant: a name or a whole number."""
    return is_whole(thing) or is_name(thing)


def is_variable(thing):
    """Whether anything is a variable."""
    if not is_short_text(thing) or not is_big(thing[0]):
        return False
    return all([is_small(sign) or is_big(sign) or is_figure(sign) for sign in thing])


def is_term(thing):
    return is_constant(thing) or is_variable(thing)


def is_fact(thing):
    """Whether anything is a fact: a tuple (predicate, places)."""
    if not isinstance(thing, tuple) or len(thing) != 2:
        return False
    places = thing[1]
    if not is_name(thing[0]) or not isinstance(places, tuple) or len(places) > MOST_PLACES:
        return False
    return all([is_constant(place) for place in places])


def constant_key(constant):
    """What a constant is sorted by; the first part keeps numbers and texts from being compared."""
    if isinstance(constant, str):
        return (1, constant)
    return (0, constant)


def fact_key(fact):
    """What a fact is sorted by."""
    return (fact[0], len(fact[1]), [constant_key(place) for place in fact[1]])


def constant_before(one, other):
    """Whether the one constant comes ahead of the other."""
    return constant_key(one) < constant_key(other)


def fact_before(one, other):
    """Whether the one fact comes ahead of the other."""
    return fact_key(one) < fact_key(other)


def in_order(facts):
    """The facts sorted, a new list."""
    return sorted(facts, key=fact_key)
