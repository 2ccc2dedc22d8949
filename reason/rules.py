"""Literals and rules: their form, their variables, and what makes them safe."""

from reason.errors import Unlike
from reason.terms import MOST_PLACES, is_name, is_term, is_variable

MOST_LITERALS = 6
MOST_YES = 4
MOST_VARIABLES = 4


def are_terms(thing):
    if not isinstance(thing, tuple) or len(thing) > MOST_PLACES:
        return False
    return all([is_term(term) for term in thing])


def is_literal(thing):
    # Only a text is compared with the kinds: what else is handed in may answer anything to a comparison.
    if not isinstance(thing, tuple) or len(thing) != 3 or not isinstance(thing[0], str):
        return False
    if thing[0] in ("yes", "not"):
        return is_name(thing[1]) and are_terms(thing[2])
    return thing[0] in ("under", "unlike") and is_term(thing[1]) and is_term(thing[2])


def is_grouping(thing):
    """Whether anything is a last head term that makes a group rule."""
    if not isinstance(thing, tuple) or len(thing) not in (1, 2) or not isinstance(thing[0], str):
        return False
    if len(thing) == 1:
        return thing[0] == "count"
    return thing[0] in ("sum", "least") and is_variable(thing[1])


def are_head_terms(thing):
    if not isinstance(thing, tuple) or len(thing) > MOST_PLACES:
        return False
    if len(thing) > 0 and is_grouping(thing[-1]):
        return are_terms(thing[:-1])
    return are_terms(thing)


def is_body(thing):
    if not isinstance(thing, tuple) or not 1 <= len(thing) <= MOST_LITERALS:
        return False
    if not all([is_literal(literal) for literal in thing]):
        return False
    return len([literal for literal in thing if literal[0] == "yes"]) <= MOST_YES


def is_rule(thing):
    """Whether anything is a rule: a tuple (predicate, terms, body)."""
    if not isinstance(thing, tuple) or len(thing) != 3:
        return False
    if not is_name(thing[0]) or not are_head_terms(thing[1]) or not is_body(thing[2]):
        return False
    return len(rule_variables(thing)) <= MOST_VARIABLES


def is_group(rule):
    """Whether a rule is a group rule."""
    return len(rule[1]) > 0 and isinstance(rule[1][-1], tuple)


def has_predicate(literal):
    return literal[0] in ("yes", "not")


def literal_variables(literal):
    """The variables of a literal, as often as they stand in it."""
    terms = literal[2] if has_predicate(literal) else literal[1:]
    return [term for term in terms if is_variable(term)]


def head_variables(rule):
    """The variables of a rule's head, the grouped one, too, as often as they stand in it."""
    terms = rule[1][:-1] + rule[1][-1][1:] if is_group(rule) else rule[1]
    return [term for term in terms if is_variable(term)]


def body_variables(body):
    """A sorted list of a body's variables."""
    found = []
    for literal in body:
        found.extend(literal_variables(literal))
    return sorted(set(found))


def rule_variables(rule):
    """A sorted list of all variables of a rule."""
    return sorted(set(head_variables(rule) + body_variables(rule[2])))


def are_bound_ahead(body):
    """Whether each not, under and unlike has its variables in yes literals ahead of it."""
    bound = {}
    for literal in body:
        for variable in literal_variables(literal):
            if literal[0] == "yes":
                bound[variable] = True
            elif variable not in bound:
                return False
    return True


def is_safe(rule):
    """Whether a rule is safe, whatever its predicates' numbers of places."""
    bound = body_variables([literal for literal in rule[2] if literal[0] == "yes"])
    if not all([variable in bound for variable in head_variables(rule)]):
        return False
    return are_bound_ahead(rule[2])


def note_width(widths, predicate, width):
    if widths.setdefault(predicate, width) != width:
        raise Unlike(f"{predicate} has two numbers of places")


def widths_of(rules, told):
    """The numbers of places, by predicate; Unlike where one has two."""
    widths = {}
    for rule in rules.values():
        note_width(widths, rule[0], len(rule[1]))
        for literal in rule[2]:
            if has_predicate(literal):
                note_width(widths, literal[1], len(literal[2]))
    for fact in told:
        note_width(widths, fact[0], len(fact[1]))
    return widths
