"""Terms replaced by constants, and bodies that hold by a binding."""

from reason.rules import has_predicate
from reason.terms import is_variable, is_whole


def replaced_by(terms, binding):
    """The terms with their variables replaced, a tuple of constants."""
    return tuple([binding.get(term, term) for term in terms])


def met_by(terms, places, binding):
    """The binding with what else is needed so that the terms are these places, a new dict; None where they can't be."""
    if len(terms) != len(places):
        return None
    met = dict(binding)
    for term, place in zip(terms, places):
        constant = met.setdefault(term, place) if is_variable(term) else term
        if constant != place:
            return None
    return met


def literal_holds(literal, binding, facts):
    """Whether one literal holds by a binding and facts, a list of them or a dict that has them as keys."""
    if has_predicate(literal):
        there = (literal[1], replaced_by(literal[2], binding)) in facts
        return there == (literal[0] == "yes")
    places = replaced_by(literal[1:], binding)
    if literal[0] == "unlike":
        return places[0] != places[1]
    return is_whole(places[0]) and is_whole(places[1]) and places[0] < places[1]


def holds_by(body, binding, facts):
    """Whether a body holds by a binding of all its variables, perhaps of others, too, and facts."""
    return all([literal_holds(literal, binding, facts) for literal in body])
